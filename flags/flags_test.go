package flags

import "testing"

func TestHas(t *testing.T) {
	for _, c := range []struct {
		these, wanted int
		want          bool
	}{
		{0, 0, true}, {1, 0, true}, {0, 1, false}, {1, 1, true}, {2, 1, false},
		{3, 1, true}, {1, 3, false}, {2, 3, false}, {3, 3, true}, {7, 5, true}, {6, 5, false},
	} {
		if got := Has(c.these, c.wanted); got != c.want {
			t.Errorf("Has(%d, %d) = %v", c.these, c.wanted, got)
		}
	}
}

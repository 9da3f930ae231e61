package ascii

import (
	"strings"
	"testing"
)

func TestIsControl(t *testing.T) {
	for i := range 256 {
		if want := i <= 31 || i == 127; IsControl(byte(i)) != want {
			t.Errorf("IsControl(%d) is not %v", i, want)
		}
	}
}

func TestCase(t *testing.T) {
	const small, great = "abcdefghijklmnopqrstuvwxyz", "ABCDEFGHIJKLMNOPQRSTUVWXYZ"
	for i := range 256 {
		b := byte(i)
		toGreat, toSmall := b, b
		if at := strings.IndexByte(small, b); at >= 0 {
			toGreat = great[at]
		}
		if at := strings.IndexByte(great, b); at >= 0 {
			toSmall = small[at]
		}
		if ToGreat(b) != toGreat || ToSmall(b) != toSmall {
			t.Errorf("of %d: great %d, small %d; want %d, %d", i, ToGreat(b), ToSmall(b), toGreat, toSmall)
		}
	}
}

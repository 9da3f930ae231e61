package input

import (
	"slices"
	"testing"
)

func TestForgetLines(t *testing.T) {
	for _, c := range []struct{ before, after Queue }{
		{nil, nil},
		{Queue{{Byte: 'a', Cells: 1}}, Queue{{Byte: 'a'}}},
		{Queue{{EndOfFile: true, EndsLine: true}}, nil},
		{Queue{{Byte: '\n', EndsLine: true}, {Byte: 3, Cells: 2}}, Queue{{Byte: '\n'}, {Byte: 3}}},
		{
			Queue{{EndOfFile: true, EndsLine: true}, {Byte: 0, Cells: 2}, {EndOfFile: true, EndsLine: true}, {EndOfFile: true, EndsLine: true}, {Byte: '\t', Cells: 8}},
			Queue{{Byte: 0}, {Byte: '\t'}},
		},
	} {
		q := slices.Clone(c.before)
		q.ForgetLines()
		if !slices.Equal(q, c.after) {
			t.Errorf("P4: of %+v there is left %+v, want %+v", c.before, q, c.after)
		}
	}
}

func TestClear(t *testing.T) {
	q := Queue{{Byte: 'a'}, {EndOfFile: true, EndsLine: true}}
	q.Clear()
	q.Clear()
	if len(q) != 0 {
		t.Errorf("P4: emptied, it has %+v", q)
	}
}

package clack

import (
	"slices"
	"testing"

	"clack/api"
	"clack/input"
)

// someEntries are of each kind: a line, an end of a file, a pending line.
func someEntries() input.Queue {
	return input.Queue{{Byte: 'a', Cells: 1}, {Byte: '\n', EndsLine: true}, {EndOfFile: true, EndsLine: true}, {Byte: 3, Cells: 2}}
}

// withEntries is a terminal with some entries, that quotes.
func withEntries(local int) *Terminal {
	x := New()
	x.settings.Local = local
	x.in = someEntries()
	x.quotes = true
	return x
}

func TestSetOfLines(t *testing.T) {
	plain := input.Queue{{Byte: 'a'}, {Byte: '\n'}, {Byte: 3}}
	for _, c := range []struct {
		before, after int
		want          input.Queue
		quotes        bool
	}{
		{api.Lines, api.Lines, someEntries(), true},
		{api.Lines, api.AllLocal, someEntries(), true},
		{api.Lines, 0, plain, false},
		{api.AllLocal, api.AllLocal &^ api.Lines, plain, false},
		{0, api.Lines, plain, true},
		{0, 0, someEntries(), false},
		{0, api.Echo, someEntries(), false},
	} {
		for _, when := range []int{api.Now, api.Drain} {
			x := withEntries(c.before)
			if e := x.Set(api.Settings{Local: c.after}, when); e != api.OK {
				t.Errorf("P4: Set = %d", e)
			}
			if !slices.Equal(x.in, c.want) || x.quotes != c.quotes {
				t.Errorf("P4: from %d to %d: the entries are %+v, quotes %v; want %+v, %v", c.before, c.after, x.in, x.quotes, c.want, c.quotes)
			}
		}
	}
}

func TestSetWithFlushEmptiesTheInputQueue(t *testing.T) {
	for _, local := range []int{0, api.Lines} {
		x := withEntries(api.Lines)
		if e := x.Set(api.Settings{Local: local}, api.Flush); e != api.OK || x.Status().In != 0 {
			t.Errorf("P4: Set with Flush = %d; %+v", e, x.Status())
		}
		if x.quotes != (local == api.Lines) {
			t.Errorf("P4: Set with Flush, Local %d: quotes %v", local, x.quotes)
		}
	}
}

func TestWrongSetLeavesTheInputQueue(t *testing.T) {
	x := withEntries(api.Lines)
	x.Write("a")
	for _, when := range []int{api.Drain, api.Flush, -1, 3} {
		if e := x.Set(api.Settings{}, when); e == api.OK {
			t.Errorf("P4: Set at %d = %d", when, e)
		}
		if !slices.Equal(x.in, someEntries()) || !x.quotes {
			t.Errorf("P1: Set at %d changed the entries: %+v, quotes %v", when, x.in, x.quotes)
		}
	}
}

func TestUrgentBytesDoNotMakeSetWait(t *testing.T) {
	x := New()
	x.out.Urge(19)
	if e := x.Set(api.Settings{}, api.Drain); e != api.OK {
		t.Errorf("P4: Set with nothing in the output queue = %d", e)
	}
}

func TestDrainSendsUrgentBytesFirst(t *testing.T) {
	x := New()
	x.Write("ab")
	x.out.Urge(19, 17)
	x.out.SetStopped(true)
	if sent, e := x.Drain(1); sent != "\x13" || e != api.OK {
		t.Errorf("P6: Drain(1) = %q, %d", sent, e)
	}
	if sent, e := x.Drain(9); sent != "\x11" || e != api.OK {
		t.Errorf("P6: stopped: Drain(9) = %q, %d", sent, e)
	}
	x.out.Urge(19)
	x.out.SetStopped(false)
	if sent, e := x.Drain(2); sent != "\x13a" || e != api.OK {
		t.Errorf("P6: Drain(2) = %q, %d", sent, e)
	}
	if sent, e := x.Drain(9); sent != "b" || e != api.OK {
		t.Errorf("P6: Drain(9) = %q, %d", sent, e)
	}
}

func TestPutOutTogether(t *testing.T) {
	x := New()
	for x.Status().Out < api.MaxOut-1 {
		x.Write("x")
	}
	if x.putOut('^', 'C') || x.Status().Out != 255 || x.Status().Column != 255 {
		t.Errorf("P5: two together where there is room for one: %+v", x.Status())
	}
	x.Drain(1)
	if !x.putOut('^', 'C') || x.Status().Out != 256 || x.Status().Column != 257 {
		t.Errorf("P5: two together where there is room for two: %+v", x.Status())
	}
}

func TestStatusTellsEachThing(t *testing.T) {
	x := New()
	x.in = someEntries()
	x.Write("abc")
	x.Drain(1)
	x.out.Urge(19)
	if s := x.Status(); s != (api.Status{In: 4, Out: 2, Column: 3}) {
		t.Errorf("P12: %+v", s)
	}
	x.out.SetStopped(true)
	if s := x.Status(); s != (api.Status{In: 4, Out: 2, Column: 3, Stopped: true}) {
		t.Errorf("P12: stopped: %+v", s)
	}
	x.out.SetStopped(false)
	x.held = true
	if s := x.Status(); s != (api.Status{In: 4, Out: 2, Column: 3, Held: true}) {
		t.Errorf("P12: held: %+v", s)
	}
	x.held, x.quotes = false, true
	if s := x.Status(); s != (api.Status{In: 4, Out: 2, Column: 3, Quoted: true}) {
		t.Errorf("P12: quotes: %+v", s)
	}
}

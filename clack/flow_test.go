package clack

import (
	"slices"
	"strings"
	"testing"

	"clack/api"
)

// flowing is a terminal that tells the other side to stand still, and echoes nothing.
func flowing(s *api.Settings) {
	s.In |= api.FlowIn
	s.Local &^= api.Echo
}

func TestHeldAndLetGo(t *testing.T) {
	x := with(t, flowing)
	for i := range 260 {
		x.Receive(api.Good, "x")
		want := ""
		if i+1 == api.High {
			want = "\x13"
		}
		if sent := drained(t, x); sent != want || x.Status().Held != (i+1 >= api.High) {
			t.Fatalf("P9: at %d entries: sent %q, %+v", i+1, sent, x.Status())
		}
	}
	for n := 254; n >= 0; n-- {
		x.Receive(api.Good, "\x7f")
		want := ""
		if n == api.Low {
			want = "\x11"
		}
		if sent := drained(t, x); sent != want || x.Status().In != n || x.Status().Held != (n > api.Low) {
			t.Fatalf("P9: down at %d entries: sent %q, %+v", n, sent, x.Status())
		}
	}
	x.Receive(api.Good, strings.Repeat("x", api.High-1))
	if sent := drained(t, x); sent != "" || x.Status().Held {
		t.Errorf("P9: again at 191 entries: sent %q, %+v", sent, x.Status())
	}
	x.Receive(api.Good, "x")
	if sent := drained(t, x); sent != "\x13" || !x.Status().Held {
		t.Errorf("P9: again at 192 entries: sent %q, %+v", sent, x.Status())
	}
}

func TestHeldBehindEachThingThatCame(t *testing.T) {
	x := with(t, flowing)
	x.Receive(api.Good, strings.Repeat("x", 200)+"\x15"+strings.Repeat("y", 200)+"\x15z")
	if sent := drained(t, x); sent != "\x13\x11\x13\x11" || x.Status().Held {
		t.Errorf("P9: sent %q, %+v", sent, x.Status())
	}
	x.Receive(api.Good, strings.Repeat("x", 200)+"\x03")
	if sent := drained(t, x); sent != "\x13\x11" || x.Status().Held {
		t.Errorf("P9: behind a signal: sent %q, %+v", sent, x.Status())
	}
	// Three bytes are laid down, and are one thing.
	y := with(t, all(flowing, in(api.MarkParity)))
	y.Receive(api.Good, strings.Repeat("x", 190))
	y.Receive(api.Parity, "p")
	if sent := drained(t, y); sent != "\x13" || y.Status().In != 193 {
		t.Errorf("P9: behind a wrong byte: sent %q, %+v", sent, y.Status())
	}
	// A break comes, and lets go by its signal.
	reset(t, y, in(api.BreakSignal))
	y.Receive(api.Break, "")
	if sent := drained(t, y); sent != "\x11" || y.Status().Held {
		t.Errorf("P9: behind a break: sent %q, %+v", sent, y.Status())
	}
	reset(t, y, func(s *api.Settings) { s.In &^= api.BreakSignal | api.MarkParity })
	y.Receive(api.Good, strings.Repeat("x", 191))
	y.Receive(api.Break, "")
	if sent := drained(t, y); sent != "\x13" || !y.Status().Held {
		t.Errorf("P9: behind a break: sent %q, %+v", sent, y.Status())
	}
}

func TestEndsOfAFileCountAsEntries(t *testing.T) {
	x := with(t, flowing)
	x.Receive(api.Good, strings.Repeat("\x04", 192))
	if sent := drained(t, x); sent != "\x13" || !x.Status().Held {
		t.Errorf("P9: sent %q, %+v", sent, x.Status())
	}
	// Without Lines they vanish.
	reset(t, x, without(api.Lines))
	if sent := drained(t, x); sent != "\x11" || x.Status() != (api.Status{}) {
		t.Errorf("P9: behind Set: sent %q, %+v", sent, x.Status())
	}
}

func TestHeldBehindSet(t *testing.T) {
	x := with(t, silent)
	x.Receive(api.Good, strings.Repeat("x", 200))
	if sent := drained(t, x); sent != "" || x.Status().Held {
		t.Errorf("P9: without FlowIn: sent %q, %+v", sent, x.Status())
	}
	// The characters are those of the new settings.
	reset(t, x, all(in(api.FlowIn), char(api.Stop, 's'), char(api.Start, 'g')))
	if sent := drained(t, x); sent != "s" || !x.Status().Held {
		t.Errorf("P9: FlowIn is set: sent %q, %+v", sent, x.Status())
	}
	reset(t, x, func(s *api.Settings) { s.In &^= api.FlowIn; s.Chars[api.Start] = 'h' })
	if sent := drained(t, x); sent != "h" || x.Status().Held || x.Status().In != 200 {
		t.Errorf("P9: FlowIn is not set any more: sent %q, %+v", sent, x.Status())
	}
	reset(t, x, in(api.FlowIn))
	if sent := drained(t, x); sent != "s" || !x.Status().Held {
		t.Errorf("P9: FlowIn is set again: sent %q, %+v", sent, x.Status())
	}
	if e := x.Set(x.Get(), api.Flush); e != api.OK {
		t.Errorf("P4: Set with Flush = %d", e)
	}
	if sent := drained(t, x); sent != "h" || x.Status() != (api.Status{}) {
		t.Errorf("P9: behind Set with Flush: sent %q, %+v", sent, x.Status())
	}
}

func TestSetThatFailsHoldsNobody(t *testing.T) {
	x := with(t, silent)
	x.Receive(api.Good, strings.Repeat("x", 200))
	x.Write("w")
	s := x.Get()
	s.In |= api.FlowIn
	for _, when := range []int{api.Drain, api.Flush, 3} {
		if e := x.Set(s, when); e == api.OK || x.Status().Held {
			t.Errorf("P1: Set at %d = %d, %+v", when, e, x.Status())
		}
	}
	if sent := drained(t, x); sent != "w" {
		t.Errorf("P1: sent %q", sent)
	}
}

func TestHeldWithoutCharacters(t *testing.T) {
	x := with(t, all(flowing, char(api.Stop, 0)))
	x.Receive(api.Good, strings.Repeat("x", 192))
	if sent := drained(t, x); sent != "" || !x.Status().Held {
		t.Errorf("P9: no Stop: sent %q, %+v", sent, x.Status())
	}
	x.Receive(api.Good, "\x15")
	if sent := drained(t, x); sent != "\x11" || x.Status().Held {
		t.Errorf("P9: no Stop, but Start: sent %q, %+v", sent, x.Status())
	}
	y := with(t, all(flowing, char(api.Start, 0)))
	y.Receive(api.Good, strings.Repeat("x", 192)+"\x15")
	if sent := drained(t, y); sent != "\x13" || y.Status().Held {
		t.Errorf("P9: no Start: sent %q, %+v", sent, y.Status())
	}
}

func TestUrgentBytesOfTheFlow(t *testing.T) {
	x := with(t, in(api.FlowIn))
	x.Write(strings.Repeat("w", 256))
	x.Receive(api.Good, "\x13"+strings.Repeat("x", 192))
	if s := x.Status(); s.Out != 256 || s.Column != 256 || !s.Stopped || !s.Held {
		t.Errorf("P9: what is urgent needs room: %+v", s)
	}
	x.Receive(api.Good, "\x15")
	if sent, _ := x.Drain(1); sent != "\x13" {
		t.Errorf("P9: sent %q", sent)
	}
	if sent := drained(t, x); sent != "\x11" {
		t.Errorf("P9: sent %q while stopped", sent)
	}
	// What is urgent is sent as it is, whatever the flags of what goes out are.
	y := with(t, all(flowing, char(api.Stop, 'z'), func(s *api.Settings) { s.Out |= api.Upper }))
	y.Receive(api.Good, strings.Repeat("x", 192))
	if sent := drained(t, y); sent != "z" || y.Status().Column != 0 {
		t.Errorf("P9: sent %q, %+v", sent, y.Status())
	}
}

func TestSignalsAreToldOnce(t *testing.T) {
	x := New()
	if l := x.Signals(); len(l) != 0 {
		t.Errorf("P12: of a new terminal: %v", l)
	}
	x.Receive(api.Good, "\x03a\x1c\x1a\x03")
	if l := x.Signals(); !slices.Equal(l, []int{1, 2, 3, 1}) {
		t.Errorf("P12: %v", l)
	}
	if l := x.Signals(); len(l) != 0 {
		t.Errorf("P12: told twice: %v", l)
	}
	x.Receive(api.Good, "\x1a")
	x.Drain(9)
	x.Receive(api.Good, "\x1c")
	if l := x.Signals(); !slices.Equal(l, []int{3, 2}) {
		t.Errorf("P12: %v", l)
	}
	// As many as there were.
	x.Receive(api.Good, strings.Repeat("\x03\x1c", 5000))
	if l := x.Signals(); !slices.Equal(l, slices.Repeat([]int{1, 2}, 5000)) {
		t.Errorf("P12: %d signals", len(l))
	}
}

func TestSignalsAreNewMemory(t *testing.T) {
	x := New()
	x.Receive(api.Good, "\x03\x1c\x1a")
	first := x.Signals()
	x.Receive(api.Good, "\x1a\x1a\x1a\x1a")
	room := first[:cap(first)]
	kept := slices.Clone(room)
	second := x.Signals()
	x.Receive(api.Good, "\x1c")
	if !slices.Equal(room, kept) {
		t.Errorf("P2: a list that was told changed: %v", room)
	}
	for i := range room {
		room[i] = 9
	}
	if third := x.Signals(); !slices.Equal(second, []int{3, 3, 3, 3}) || !slices.Equal(third, []int{2}) {
		t.Errorf("P2: lists share memory: %v, %v", second, third)
	}
}

package clack

import (
	"math/rand/v2"
	"strings"
	"testing"

	"clack/api"
)

func TestNeverMoreThanThereIsRoomFor(t *testing.T) {
	for _, c := range []struct {
		why    string
		change func(*api.Settings)
		in     int // so many entries there are when nothing more fits
	}{
		{"a line without end", plain, 255},
		{"bytes", without(api.Lines), 256},
		{"marked", in(api.MarkParity), 255},
		{"marked bytes", all(in(api.MarkParity), without(api.Lines)), 256},
		{"Bell", in(api.Bell), 255},
		{"FlowIn", all(in(api.FlowIn|api.Bell), without(api.Lines)), 256},
		{"without Echo", silent, 255},
		{"blanks for a TAB", func(s *api.Settings) { s.Out |= api.Tabs }, 255},
		{"nothing is processed", func(s *api.Settings) { s.Out = 0 }, 255},
	} {
		x := with(t, c.change)
		full := func(of int) {
			t.Helper()
			if s := x.Status(); s.In > of || s.Out > 256 || len(x.in) > 256 {
				t.Fatalf("P13: %s: %+v", c.why, s)
			}
		}
		for i := range 400 {
			x.Receive(i%3, "a\xff\t")
			full(c.in)
			x.Write("w\n\t"[i%3:])
			full(c.in)
		}
		if s := x.Status(); s.In != c.in || s.Out != 256 {
			t.Errorf("P13: %s: filled, it has %+v", c.why, s)
		}
		// What shows something, without an entry of its own.
		x.Receive(api.Good, "\x12\x16a\x7f\x17b\x15\n\n\x03c\x04")
		full(256)
		x.Receive(api.Good, strings.Repeat("\n\x04", 200))
		full(256)
		if s := x.Status(); s.In != 256 {
			t.Errorf("P13: %s: filled by lines, it has %+v", c.why, s)
		}
	}
}

func TestTheQueuesStayFullWhenLinesChanges(t *testing.T) {
	x := with(t, all(without(api.Lines), in(api.Bell)))
	x.Write(strings.Repeat("w", 300))
	for i := range 20 {
		x.Receive(api.Good, strings.Repeat("x\n\x04", 100))
		if s := x.Status(); s.In > 256 || s.Out != 256 {
			t.Fatalf("P13: %+v", s)
		}
		reset(t, x, func(s *api.Settings) { s.Local ^= api.Lines })
		if s := x.Status(); s.In > 256 || s.Out != 256 {
			t.Fatalf("P13: change %d of Lines: %+v", i, s)
		}
	}
}

// comeAndGo is one call, by chance, by which entries come and go, FlowIn is set or not, and the characters stay.
func comeAndGo(t *testing.T, r *rand.Rand, x *Terminal) {
	t.Helper()
	switch r.IntN(9) {
	case 0:
		reset(t, x, func(s *api.Settings) { s.In = flipped(r, s.In, api.AllIn, 5) &^ api.FlowOut })
	case 1:
		reset(t, x, func(s *api.Settings) { s.Local ^= r.IntN(2) * api.Lines })
	case 2:
		x.Flush(1 + r.IntN(3))
	case 3:
		x.Tick()
	case 4:
		x.Read(1 + r.IntN(256))
	case 5:
		x.Take()
	default:
		x.Receive(api.Good, strings.Repeat(some(r, 2), r.IntN(100)))
	}
}

func TestForFlowInStopAndStartComeByTurns(t *testing.T) {
	turns := 0
	for seed := range uint64(300) {
		r := rand.New(rand.NewPCG(seed, 13))
		x := with(t, all(in(api.FlowIn), func(s *api.Settings) { s.In &^= api.FlowOut }))
		// While it is stopped only what is urgent is sent, and here that is for FlowIn alone.
		x.Flow(api.Hold)
		var sent strings.Builder
		for range 100 {
			comeAndGo(t, r, x)
			part, _ := x.Drain(r.IntN(3))
			sent.WriteString(part)
		}
		sent.WriteString(drained(t, x))
		n := sent.Len()
		if sent.String() != strings.Repeat("\x13\x11", n)[:n] {
			t.Fatalf("P13: run %d: there was urgent %q", seed, sent.String())
		}
		if x.Status().Held != (n%2 == 1) {
			t.Fatalf("P13: run %d: held %v behind %d by turns", seed, x.Status().Held, n)
		}
		turns += n
	}
	if turns < 1000 {
		t.Errorf("P13: only %d turns were seen", turns)
	}
}

// split tells apart what is urgent and what is not, where no other byte is Stop or Start.
func split(sent string) (urgent, ordinary string) {
	for i := range len(sent) {
		if b := sent[i : i+1]; b == "\x13" || b == "\x11" {
			urgent += b
		} else {
			ordinary += b
		}
	}
	return urgent, ordinary
}

// putSome is one call, by chance, by which something may be put out or become urgent, and nothing is stopped or let go on.
func putSome(t *testing.T, r *rand.Rand, x *Terminal) {
	t.Helper()
	switch r.IntN(9) {
	case 0:
		x.Write("w\tW\n"[r.IntN(4):])
	case 1:
		reset(t, x, func(s *api.Settings) { s.Out = flipped(r, s.Out, api.AllOut, 4) })
	case 2:
		x.Flow(api.SendStop + r.IntN(2))
	case 3:
		x.Flush(api.Input)
	case 4:
		x.Read(1 + r.IntN(9))
		x.Tick()
		x.Take()
	case 5:
		x.Receive(1+r.IntN(2), "p")
	case 6:
		x.Receive(api.Good, strings.Repeat("\n", 20))
	default:
		x.Receive(api.Good, "ab\t\x7f\x7f\n\x03"[r.IntN(7):])
	}
}

// keepBack stops the terminal, or lets it go on, in one of the ways that there are.
func keepBack(r *rand.Rand, x *Terminal, stop bool) {
	switch typed := r.IntN(2) == 0; {
	case typed && stop:
		x.Receive(api.Good, "\x13")
	case typed:
		x.Receive(api.Good, "\x11")
	case stop:
		x.Flow(api.Hold)
	default:
		x.Flow(api.Go)
	}
}

func TestNothingIsSentOrLostBetweenStopAndStart(t *testing.T) {
	most := 0
	for seed := range uint64(200) {
		r := rand.New(rand.NewPCG(seed, 31))
		settings := all(in(api.FlowIn), local(api.NoFlush), char(api.Min, 3))
		// The second one is never stopped, and shows what is to be sent.
		x, y := with(t, settings), with(t, settings)
		for range 20 {
			keepBack(r, x, true)
			var kept strings.Builder
			for x.Status().Out < 150 && r.IntN(25) > 0 {
				was := r.Uint64()
				putSome(t, rand.New(rand.NewPCG(was, 1)), x)
				putSome(t, rand.New(rand.NewPCG(was, 1)), y)
				urgent, rest := split(drained(t, x))
				urgentToo, due := split(drained(t, y))
				if rest != "" || urgent != urgentToo {
					t.Fatalf("P13: run %d: stopped, it sent %q and %q, want %q and nothing", seed, urgent, rest, urgentToo)
				}
				kept.WriteString(due)
			}
			if x.Status().Out != kept.Len() || x.Status().Column != y.Status().Column {
				t.Fatalf("P13: run %d: %+v, but %d bytes were kept back", seed, x.Status(), kept.Len())
			}
			keepBack(r, x, false)
			if sent := drained(t, x); sent != kept.String() {
				t.Fatalf("P13: run %d: let go on, it sent %q, want %q", seed, sent, kept.String())
			}
			most = max(most, kept.Len())
		}
	}
	if most < 100 {
		t.Errorf("P13: at most %d bytes were kept back", most)
	}
}

func TestAFullQueueIsKeptBackWhole(t *testing.T) {
	for _, c := range []struct {
		why   string
		start func(*Terminal)
	}{
		{"Start", func(x *Terminal) { x.Receive(api.Good, "\x11") }},
		{"Go", func(x *Terminal) { x.Flow(api.Go) }},
		{"any byte", func(x *Terminal) { reset(t, x, in(api.AnyStarts)); x.Receive(api.Good, "z") }},
	} {
		x := New()
		var want strings.Builder
		for i := range 128 {
			want.WriteString(string([]byte{'a' + byte(i%26), 'A' + byte(i%7)}))
		}
		x.Write(want.String()[:100])
		x.Receive(api.Good, "\x13")
		x.Write(want.String()[100:])
		// For this there is no room: it is not shown, and takes the place of nothing.
		x.Receive(api.Good, "echo\x7f\x15\n")
		if n := x.Write("lost"); n != 0 || drained(t, x) != "" || x.Status().Out != 256 {
			t.Errorf("P13: %s: Write = %d, %+v", c.why, n, x.Status())
		}
		c.start(x)
		if sent := drained(t, x); sent != want.String() {
			t.Errorf("P13: %s: sent %q, want %q", c.why, sent, want.String())
		}
	}
}

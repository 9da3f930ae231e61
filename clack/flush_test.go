package clack

import (
	"math"
	"slices"
	"strings"
	"testing"

	"clack/api"
)

// kindsThatThereAreNot are no queue to be emptied and nothing to be done to the flow, though some have the bits of one.
var kindsThatThereAreNot = []int{math.MinInt, math.MinInt + 1, -256, -3, -2, -1, 0, 5, 6, 7, 255, 256, 257, 258, 1 << 32, 1<<32 + 1, 1<<32 + 2, math.MaxInt - 1, math.MaxInt}

// busy is a terminal that has something of everything: entries, bytes, urgent ones, a column, a signal, a read; it is stopped, holds the other side and quotes.
func busy(t *testing.T) *Terminal {
	t.Helper()
	x := with(t, all(flowing, local(api.NoFlush)))
	x.Receive(api.Good, "\x03ab\n\x04"+strings.Repeat("x", 196)+"\x16")
	x.Write("out")
	x.Receive(api.Good, "y\x13\x16")
	begin(t, x, 2)
	x.Flow(api.SendStart)
	want := api.Status{In: 199, Out: 3, Column: 3, Stopped: true, Held: true, Quoted: true}
	if x.Status() != want {
		t.Fatalf("a busy terminal: %+v", x.Status())
	}
	return x
}

func TestFlushEmptiesTheQueuesThatItSays(t *testing.T) {
	for _, c := range []struct {
		which  int
		in     string
		out    int
		urgent string
	}{
		{api.Input, "", 3, "\x13\x11\x11"},
		{api.Output, "\n|EOF|" + strings.Repeat("x", 196) + "y", 0, "\x13\x11"},
		{api.Both, "", 0, "\x13\x11\x11"},
	} {
		x := busy(t)
		settings := x.Get()
		if e := x.Flush(c.which); e != api.OK {
			t.Errorf("P11: Flush(%d) = %d", c.which, e)
		}
		want := api.Status{In: len(x.in), Out: c.out, Column: 3, Stopped: true, Held: c.in != "", Quoted: true}
		if entries(x) != c.in || x.Status() != want || x.Get() != settings {
			t.Errorf("P11: Flush(%d) leaves %q, %+v, want %q, %+v", c.which, entries(x), x.Status(), c.in, want)
		}
		if sent := drained(t, x); sent != c.urgent {
			t.Errorf("P11: Flush(%d): there was urgent %q, want %q", c.which, sent, c.urgent)
		}
		x.Flow(api.Go)
		if sent := drained(t, x); sent != "out"[:c.out] {
			t.Errorf("P11: Flush(%d): there was sent %q", c.which, sent)
		}
		if l := x.Signals(); !slices.Equal(l, []int{api.Interrupt}) {
			t.Errorf("P11: Flush(%d): the signals are %v", c.which, l)
		}
		has(t, x, "a read that had ended", "ab")
	}
}

func TestFlushOfWhatIsEmpty(t *testing.T) {
	for _, which := range []int{api.Input, api.Output, api.Both} {
		x := New()
		for range 3 {
			if e := x.Flush(which); e != api.OK || x.Status() != (api.Status{}) || x.Get() != New().Get() {
				t.Errorf("P11: Flush(%d) of a new terminal = %d, %+v", which, e, x.Status())
			}
		}
		noRead(t, x, "Flush begins none")
		x.Receive(api.Good, "a\r")
		begin(t, x, 9)
		has(t, x, "behind Flush", "a\n")
		if sent := drained(t, x); sent != "a\r\n" {
			t.Errorf("P11: behind Flush(%d) there was sent %q", which, sent)
		}
	}
}

func TestFlushOfAQueueThatThereIsNot(t *testing.T) {
	for _, which := range append(kindsThatThereAreNot, 4) {
		x := busy(t)
		status, settings, queue := x.Status(), x.Get(), slices.Clone(x.in)
		if e := x.Flush(which); e != api.ErrKind {
			t.Errorf("P11: Flush(%d) = %d", which, e)
		}
		if x.Status() != status || x.Get() != settings || !slices.Equal(x.in, queue) {
			t.Errorf("P1: Flush(%d) changed it: %+v, %q", which, x.Status(), entries(x))
		}
		sent := drained(t, x)
		x.Flow(api.Go)
		if sent += drained(t, x); sent != "\x13\x11out" {
			t.Errorf("P1: behind Flush(%d) there was sent %q", which, sent)
		}
		has(t, x, "behind a wrong Flush", "ab")
	}
}

func TestFlushMakesRoom(t *testing.T) {
	x := with(t, without(api.Lines|api.Echo))
	fill := func() {
		x.Receive(api.Good, strings.Repeat("x", 300))
		x.Write(strings.Repeat("w", 300))
	}
	fill()
	x.Flush(api.Input)
	if n := x.Write("w"); n != 0 || x.Status().In != 0 || x.Status().Out != 256 {
		t.Errorf("P11: Flush(Input): Write = %d, %+v", n, x.Status())
	}
	fill()
	x.Flush(api.Output)
	x.Receive(api.Good, "x")
	if x.Status().In != 256 || x.Status().Out != 0 {
		t.Errorf("P11: Flush(Output): %+v", x.Status())
	}
	fill()
	x.Flush(api.Both)
	if x.Status().In != 0 || x.Status().Out != 0 {
		t.Errorf("P11: Flush(Both): %+v", x.Status())
	}
	fill()
	if s := x.Status(); s.In != 256 || s.Out != 256 || s.Column != 3*256 {
		t.Errorf("P11: filled again: %+v", s)
	}
}

func TestThePendingLineBehindFlush(t *testing.T) {
	x := New()
	x.Receive(api.Good, "ab\ncd")
	x.Flush(api.Input)
	drained(t, x)
	x.Receive(api.Good, "\x7f\x17e\x7f\x7f")
	if sent := drained(t, x); sent != "e\b \b" || entries(x) != "" {
		t.Errorf("P11: of a line that was flushed there was rubbed out: %q, %q", sent, entries(x))
	}
	// The column is where it would be if all had been sent; so are the cells.
	x.Receive(api.Good, "\rab\t")
	x.Flush(api.Output)
	if cells(x) != "0116" || x.Status().Column != 8 {
		t.Errorf("P11: Flush(Output): cells %s, %+v", cells(x), x.Status())
	}
	x.Receive(api.Good, "\x7f\x7f")
	if sent := drained(t, x); sent != "\b\b\b\b\b\b\b \b" || entries(x) != "\n|a" {
		t.Errorf("P11: Flush(Output): there was rubbed out %q, %q", sent, entries(x))
	}
}

func TestFlushLeavesWhatIsQuoted(t *testing.T) {
	for _, which := range []int{api.Input, api.Output, api.Both} {
		x := with(t, silent)
		x.Receive(api.Good, "a\x16")
		x.Flush(which)
		x.Receive(api.Good, "\x03")
		if !strings.HasSuffix(entries(x), "\x03") || len(x.Signals()) != 0 {
			t.Errorf("P11: behind Flush(%d) nothing is quoted: %q", which, entries(x))
		}
	}
}

func TestFlushLeavesWhatIsUrgent(t *testing.T) {
	for _, which := range []int{api.Input, api.Output, api.Both} {
		x := New()
		x.Write("w")
		x.Flow(api.SendStop)
		x.Flow(api.SendStart)
		x.Flow(api.SendStart)
		x.Flush(which)
		want := "\x13\x11\x11"
		if which == api.Input {
			want += "w"
		}
		if sent := drained(t, x); sent != want {
			t.Errorf("P11: behind Flush(%d) there was sent %q, want %q", which, sent, want)
		}
	}
}

func TestFlushLeavesTheRead(t *testing.T) {
	for _, which := range []int{api.Input, api.Output, api.Both} {
		kept := ""
		if which == api.Output {
			kept = "ab"
		}
		x := with(t, silent)
		begin(t, x, 9)
		x.Receive(api.Good, "ab")
		x.Flush(which)
		goesOn(t, x, "P11: a read of lines")
		if e := x.Read(9); e != api.ErrBusy {
			t.Errorf("P11: behind Flush(%d) Read = %d", which, e)
		}
		x.Receive(api.Good, "c\nd\n")
		x.Flush(which)
		has(t, x, "P11: a read of lines that has ended", kept+"c\n")

		y := with(t, raw(3, 0))
		begin(t, y, 9)
		y.Receive(api.Good, "ab")
		y.Flush(which)
		goesOn(t, y, "P11: a read of bytes")
		y.Receive(api.Good, "cde"[len(kept):])
		y.Flush(which)
		has(t, y, "P11: a read of bytes that has ended", kept+"cde"[len(kept):])
	}
}

func TestFlushLeavesTheWait(t *testing.T) {
	for _, which := range []int{api.Input, api.Output, api.Both} {
		x := with(t, raw(0, 3))
		begin(t, x, 9)
		ticks(x, 2)
		x.Flush(which)
		goesOn(t, x, "P11: two Ticks, and Flush between")
		x.Tick()
		has(t, x, "P11: three Ticks, and Flush between", "")
	}
	// What is thrown away ends no read, however long the wait is.
	x := with(t, raw(3, 2))
	begin(t, x, 9)
	x.Receive(api.Good, "a")
	x.Tick()
	x.Flush(api.Input)
	ticks(x, 9)
	goesOn(t, x, "P11: its byte was thrown away")
	x.Receive(api.Good, "b")
	x.Tick()
	goesOn(t, x, "P11: a Tick behind b")
	x.Tick()
	has(t, x, "P11: two Ticks behind b", "b")
}

func TestFlushLetsTheOtherSideGoOn(t *testing.T) {
	for _, c := range []struct {
		why    string
		change func(*api.Settings)
		there  int
		which  int
		sent   string
		held   bool
	}{
		{"Input", plain, 192, api.Input, "\x13\x11", false},
		{"Both", plain, 192, api.Both, "\x13\x11", false},
		{"Output empties no entries", plain, 192, api.Output, "\x13", true},
		{"the full queue", plain, 300, api.Input, "\x13\x11", false},
		{"nobody was held", plain, 191, api.Both, "", false},
		{"no Start", char(api.Start, 0), 200, api.Both, "\x13", false},
		{"no Stop", char(api.Stop, 0), 200, api.Both, "\x11", false},
		{"a wrong one", plain, 192, 0, "\x13", true},
		{"another wrong one", plain, 192, 4, "\x13", true},
	} {
		x := with(t, all(flowing, c.change))
		x.Receive(api.Good, strings.Repeat("x", c.there))
		x.Flush(c.which)
		if x.Status().Held != c.held {
			t.Errorf("P9: Flush: %s: %+v", c.why, x.Status())
		}
		if sent := drained(t, x); sent != c.sent {
			t.Errorf("P9: Flush: %s: sent %q, want %q", c.why, sent, c.sent)
		}
	}
}

func TestSetBehindFlush(t *testing.T) {
	x := New()
	x.Write("w")
	x.Flow(api.SendStop)
	x.Flush(api.Input)
	if e := x.Set(x.Get(), api.Drain); e != api.ErrBusy {
		t.Errorf("P4: Set with a byte to be sent = %d", e)
	}
	x.Flush(api.Output)
	if e := x.Set(x.Get(), api.Drain); e != api.OK {
		t.Errorf("P4: Set behind Flush(Output) = %d", e)
	}
}

func TestHoldAndGo(t *testing.T) {
	const stop, start = "\x13", "\x11"
	flow := func(action int) func(*Terminal) { return func(x *Terminal) { x.Flow(action) } }
	come := func(s string) func(*Terminal) { return func(x *Terminal) { x.Receive(api.Good, s) } }
	set := func(change func(*api.Settings)) func(*Terminal) { return func(x *Terminal) { reset(t, x, change) } }
	hold, goOn := flow(api.Hold), flow(api.Go)
	for _, c := range []struct {
		why     string
		change  func(*api.Settings)
		do      []func(*Terminal)
		stopped bool
	}{
		{"Hold", plain, []func(*Terminal){hold}, true},
		{"Hold twice", plain, []func(*Terminal){hold, hold}, true},
		{"Go", plain, []func(*Terminal){goOn}, false},
		{"Hold, Go", plain, []func(*Terminal){hold, goOn}, false},
		{"Hold twice, Go once", plain, []func(*Terminal){hold, hold, goOn}, false},
		{"Hold, Go, Hold", plain, []func(*Terminal){hold, goOn, hold}, true},
		{"without FlowOut", func(s *api.Settings) { s.In = 0 }, []func(*Terminal){hold}, true},
		{"without FlowOut, Go", func(s *api.Settings) { s.In = 0 }, []func(*Terminal){hold, goOn}, false},
		{"without characters", all(char(api.Stop, 0), char(api.Start, 0)), []func(*Terminal){hold}, true},
		{"without characters, Go", all(char(api.Stop, 0), char(api.Start, 0)), []func(*Terminal){hold, goOn}, false},
		{"Hold, Start comes", plain, []func(*Terminal){hold, come(start)}, false},
		{"Stop comes, Go", plain, []func(*Terminal){come(stop), goOn}, false},
		{"Hold, any byte comes", plain, []func(*Terminal){hold, come("a\n\x03")}, true},
		{"Hold, any byte comes with AnyStarts", in(api.AnyStarts), []func(*Terminal){hold, come("a")}, false},
		{"Hold, another call", plain, []func(*Terminal){hold, set(in(api.FlowIn)), (*Terminal).Tick, flow(api.SendStart), flow(api.SendStop)}, true},
		{"Hold, Flush", plain, []func(*Terminal){hold, func(x *Terminal) { x.Flush(api.Both) }}, true},
		{"SendStop", plain, []func(*Terminal){flow(api.SendStop)}, false},
		{"Hold, SendStart", plain, []func(*Terminal){hold, flow(api.SendStart)}, true},
	} {
		x := with(t, c.change)
		for _, do := range c.do {
			do(x)
		}
		if s := x.Status(); s.Stopped != c.stopped || s.Held {
			t.Errorf("P11: %s: %+v", c.why, s)
		}
		x.Flush(api.Both)
		drained(t, x)
		x.Write("w")
		if sent := drained(t, x); sent == "" != c.stopped {
			t.Errorf("P11: %s: sent %q", c.why, sent)
		}
	}
}

func TestSendStopAndSendStart(t *testing.T) {
	for _, c := range []struct {
		why     string
		change  func(*api.Settings)
		actions []int
		sent    string
	}{
		{"Stop", plain, []int{api.SendStop}, "\x13"},
		{"Start", plain, []int{api.SendStart}, "\x11"},
		{"as often as it is asked for, in order", plain, []int{api.SendStart, api.SendStop, api.SendStop, api.SendStart}, "\x11\x13\x13\x11"},
		{"other characters", all(char(api.Stop, 's'), char(api.Start, 255)), []int{api.SendStop, api.SendStart}, "s\xff"},
		{"no Stop", char(api.Stop, 0), []int{api.SendStop, api.SendStart, api.SendStop}, "\x11"},
		{"no Start", char(api.Start, 0), []int{api.SendStop, api.SendStart, api.SendStop}, "\x13\x13"},
		{"neither", all(char(api.Stop, 0), char(api.Start, 0)), []int{api.SendStop, api.SendStart}, ""},
		{"only the lowest eight bits count", all(char(api.Stop, 256), char(api.Start, 256+'g')), []int{api.SendStop, api.SendStart}, "g"},
		{"without a flag of the flow", func(s *api.Settings) { s.In = 0 }, []int{api.SendStop, api.SendStart}, "\x13\x11"},
		{"sent as it is", all(char(api.Stop, 'z'), char(api.Start, '\n'), func(s *api.Settings) { s.Out = api.AllOut }), []int{api.SendStop, api.SendStart}, "z\n"},
	} {
		x := with(t, c.change)
		x.Write("AB")
		for _, action := range c.actions {
			if e := x.Flow(action); e != api.OK {
				t.Errorf("P11: %s: Flow(%d) = %d", c.why, action, e)
			}
		}
		if s := x.Status(); s != (api.Status{Out: 2, Column: 2}) {
			t.Errorf("P11: %s: %+v", c.why, s)
		}
		if sent := drained(t, x); sent != c.sent+"AB" {
			t.Errorf("P11: %s: sent %q, want %q", c.why, sent, c.sent+"AB")
		}
		if sent := drained(t, x); sent != "" {
			t.Errorf("P11: %s: sent twice: %q", c.why, sent)
		}
	}
}

func TestWhatFlowSendsGoesFirst(t *testing.T) {
	x := New()
	x.Write("abc")
	x.Flow(api.Hold)
	x.Flow(api.SendStop)
	x.Flow(api.SendStart)
	for _, c := range []struct {
		n    int
		want string
	}{{0, ""}, {1, "\x13"}, {9, "\x11"}, {9, ""}} {
		if sent, e := x.Drain(c.n); sent != c.want || e != api.OK {
			t.Errorf("P6: stopped: Drain(%d) = %q, %d, want %q", c.n, sent, e, c.want)
		}
	}
	x.Flow(api.SendStop)
	x.Flow(api.Go)
	if sent, e := x.Drain(2); sent != "\x13a" || e != api.OK {
		t.Errorf("P6: Drain(2) = %q, %d", sent, e)
	}
	x.Flow(api.SendStart)
	if sent := drained(t, x); sent != "\x11bc" {
		t.Errorf("P6: sent %q", sent)
	}
	// It needs no room, and there may be any number of it.
	x.Write(strings.Repeat("w", 256))
	for range 1000 {
		x.Flow(api.SendStop)
	}
	if sent := drained(t, x); sent != strings.Repeat("\x13", 1000)+strings.Repeat("w", 256) {
		t.Errorf("P11: sent %d bytes", len(sent))
	}
}

func TestWhatFlowSendsIsOfTheSettingsThen(t *testing.T) {
	x := New()
	x.Flow(api.SendStop)
	reset(t, x, all(char(api.Stop, 's'), char(api.Start, 'g')))
	x.Flow(api.SendStop)
	x.Flow(api.SendStart)
	reset(t, x, char(api.Stop, 0))
	if sent := drained(t, x); sent != "\x13sg" {
		t.Errorf("P11: sent %q", sent)
	}
}

func TestSendStopHoldsNobody(t *testing.T) {
	x := with(t, flowing)
	x.Receive(api.Good, strings.Repeat("x", 191))
	x.Flow(api.SendStop)
	if x.Status().Held {
		t.Errorf("P11: SendStop: %+v", x.Status())
	}
	x.Receive(api.Good, "x")
	x.Flow(api.SendStart)
	x.Flow(api.SendStop)
	if !x.Status().Held {
		t.Errorf("P11: SendStart: %+v", x.Status())
	}
	x.Receive(api.Good, "\x15")
	// The second Stop and the last Start are those of FlowIn.
	if sent := drained(t, x); sent != "\x13\x13\x11\x13\x11" || x.Status().Held {
		t.Errorf("P11: sent %q, %+v", sent, x.Status())
	}
}

func TestFlowOfAnActionThatThereIsNot(t *testing.T) {
	for _, action := range kindsThatThereAreNot {
		x := busy(t)
		status, settings, queue := x.Status(), x.Get(), slices.Clone(x.in)
		if e := x.Flow(action); e != api.ErrKind {
			t.Errorf("P11: Flow(%d) = %d", action, e)
		}
		if x.Status() != status || x.Get() != settings || !slices.Equal(x.in, queue) {
			t.Errorf("P1: Flow(%d) changed it: %+v, %q", action, x.Status(), entries(x))
		}
		if sent := drained(t, x); sent != "\x13\x11" {
			t.Errorf("P1: behind Flow(%d) there was urgent %q", action, sent)
		}
		y := New()
		if e := y.Flow(action); e != api.ErrKind || y.Status() != (api.Status{}) || drained(t, y) != "" {
			t.Errorf("P1: Flow(%d) of a new terminal = %d, %+v", action, e, y.Status())
		}
	}
}

func TestFlowLeavesWhatCame(t *testing.T) {
	for _, action := range []int{api.Hold, api.Go, api.SendStop, api.SendStart} {
		x := with(t, all(flowing, raw(9, 2)))
		begin(t, x, 9)
		x.Receive(api.Good, "ab")
		x.Tick()
		if e := x.Flow(action); e != api.OK || entries(x) != "ab" {
			t.Errorf("P11: Flow(%d) = %d, leaves %q", action, e, entries(x))
		}
		goesOn(t, x, "P11: behind Flow")
		x.Tick()
		has(t, x, "P11: two Ticks, and Flow between", "ab")
	}
}

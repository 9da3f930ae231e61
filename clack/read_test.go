package clack

import (
	"math"
	"strings"
	"testing"

	"clack/api"
)

// raw is without Lines and without echo, with a Min and a Time.
func raw(least, time int) func(*api.Settings) {
	return all(without(api.Lines|api.Echo), char(api.Min, least), char(api.Time, time))
}

// begin begins to read, which must be possible.
func begin(t *testing.T, x *Terminal, n int) {
	t.Helper()
	if e := x.Read(n); e != api.OK {
		t.Fatalf("P10: Read(%d) = %d", n, e)
	}
}

// goesOn checks that there is a read that has not ended.
func goesOn(t *testing.T, x *Terminal, why string) {
	t.Helper()
	if s, ended, e := x.Take(); s != "" || ended || e != api.OK {
		t.Errorf("P10: %s: Take = %q, %v, %d, but the read goes on", why, s, ended, e)
	}
}

// has checks what a read has that has ended, and that there is none behind that.
func has(t *testing.T, x *Terminal, why, want string) {
	t.Helper()
	if s, ended, e := x.Take(); s != want || !ended || e != api.OK {
		t.Errorf("P10: %s: Take = %q, %v, %d, want %q", why, s, ended, e, want)
	}
	noRead(t, x, why)
}

// noRead checks that there is no read.
func noRead(t *testing.T, x *Terminal, why string) {
	t.Helper()
	if s, ended, e := x.Take(); s != "" || ended || e != api.ErrNone {
		t.Errorf("P10: %s: Take without a read = %q, %v, %d", why, s, ended, e)
	}
}

// ticks lets a time pass.
func ticks(x *Terminal, n int) {
	for range n {
		x.Tick()
	}
}

func TestReadsThatMayNotBe(t *testing.T) {
	wrong := []int{0, -1, 257, 258, 512, math.MinInt, math.MinInt + 1, math.MaxInt, 1 << 32, 1<<32 + 1}
	x := with(t, silent)
	x.Receive(api.Good, "ab\ncd\n")
	for _, n := range wrong {
		if e := x.Read(n); e != api.ErrSize {
			t.Errorf("P10: Read(%d) = %d", n, e)
		}
		noRead(t, x, "behind a wrong size")
	}
	if entries(x) != "ab\n|cd\n|" {
		t.Errorf("P1: behind wrong sizes there is left %q", entries(x))
	}
	begin(t, x, 256)
	for _, n := range wrong {
		if e := x.Read(n); e != api.ErrSize {
			t.Errorf("P10: Read(%d) while there is a read = %d", n, e)
		}
	}
	if e := x.Read(1); e != api.ErrBusy || entries(x) != "cd\n|" {
		t.Errorf("P10: a read that has ended: Read = %d, left %q", e, entries(x))
	}
	has(t, x, "behind errors", "ab\n")
	begin(t, x, 1)
	has(t, x, "one byte", "c")
	begin(t, x, 256)
	has(t, x, "the rest", "d\n")
	begin(t, x, 2)
	if e := x.Read(5); e != api.ErrBusy {
		t.Errorf("P10: a read that goes on: Read = %d", e)
	}
	x.Receive(api.Good, "efg\n")
	has(t, x, "of the size that it began with", "ef")
}

func TestTakeWithoutARead(t *testing.T) {
	x := New()
	noRead(t, x, "P3: a new terminal")
	x.Receive(api.Good, "ab\n")
	x.Tick()
	noRead(t, x, "a line waits")
	begin(t, x, 9)
	has(t, x, "the line", "ab\n")
	x.Receive(api.Good, "cd\n")
	noRead(t, x, "another line waits")
	if entries(x) != "cd\n|" {
		t.Errorf("P10: without a read there is left %q", entries(x))
	}
}

func TestDocumentsReads(t *testing.T) {
	x := New()
	x.Receive(api.Good, "ab")
	x.Receive(api.Good, "\x7f")
	x.Receive(api.Good, "c")
	x.Receive(api.Good, "\r")
	if sent := drained(t, x); sent != "ab\b \bc\r\n" {
		t.Errorf("P8: sent %q", sent)
	}
	begin(t, x, 9)
	has(t, x, "a line", "ac\n")

	x = New()
	x.Receive(api.Good, "\x04")
	begin(t, x, 5)
	has(t, x, "an end of a file", "")
	x.Receive(api.Good, "hi\x04")
	begin(t, x, 5)
	has(t, x, "a line that an end of a file ends", "hi")
	x.Receive(api.Good, strings.Repeat("x", 300)+"\n\ny")
	begin(t, x, 256)
	has(t, x, "a line that is too long", strings.Repeat("x", 255)+"\n")
	if entries(x) != "" {
		t.Errorf("P7: behind a full line there is left %q", entries(x))
	}

	x = with(t, raw(3, 2))
	begin(t, x, 5)
	x.Receive(api.Good, "a")
	x.Tick()
	x.Receive(api.Good, "b")
	x.Tick()
	goesOn(t, x, "one Tick behind b")
	x.Tick()
	has(t, x, "two Ticks behind b", "ab")
	reset(t, x, raw(0, 2))
	begin(t, x, 5)
	x.Tick()
	goesOn(t, x, "one Tick")
	x.Tick()
	has(t, x, "two Ticks", "")
}

func TestReadsOfLines(t *testing.T) {
	type sized struct {
		n    int
		want string
	}
	for _, c := range []struct {
		why   string
		s     string
		reads []sized
		left  string
	}{
		{"a line each", "ab\n\ncd\ne", []sized{{9, "ab\n"}, {9, "\n"}, {9, "cd\n"}}, "e"},
		{"just as long as the line", "ab\ncd\n", []sized{{3, "ab\n"}, {3, "cd\n"}}, ""},
		{"shorter than the line", "abc\nd\n", []sized{{2, "ab"}, {1, "c"}, {5, "\n"}, {1, "d"}}, "\n|"},
		{"Eol", "ab;cd\n", []sized{{9, "ab;"}, {9, "cd\n"}}, ""},
		{"an end of a file", "ab\x04cd\n", []sized{{9, "ab"}, {9, "cd\n"}}, ""},
		{"an end of a file alone", "\x04a\n", []sized{{9, ""}, {9, "a\n"}}, ""},
		{"several", "\x04\x04\x04", []sized{{1, ""}, {256, ""}}, "EOF|"},
		{"an end of a file comes next", "ab\x04cd\n", []sized{{2, "ab"}, {9, "cd\n"}}, ""},
		{"it comes next in parts", "ab\x04\x04c\x04", []sized{{1, "a"}, {1, "b"}, {1, ""}, {1, "c"}}, ""},
		{"it does not come next", "abc\x04", []sized{{2, "ab"}}, "cEOF|"},
		{"only one that comes next", "ab\x04\x04", []sized{{2, "ab"}}, "EOF|"},
		{"an end of a file behind an NL is another line's", "a\n\x04b\n", []sized{{2, "a\n"}, {2, ""}, {2, "b\n"}}, ""},
		{"quoted ends end nothing", "a\x16\n\x16\x04\x16;b\n", []sized{{9, "a\n\x04;b\n"}}, ""},
		{"a byte 0", "\x00a\x00\n", []sized{{9, "\x00a\x00\n"}}, ""},
		{"what is rubbed out is not read", "abc\x7f\x7fd e\x17f\nxy\x15z\n", []sized{{9, "ad f\n"}, {9, "z\n"}}, ""},
	} {
		x := with(t, all(silent, char(api.Eol, ';')))
		x.Receive(api.Good, c.s)
		for i, r := range c.reads {
			begin(t, x, r.n)
			if s, ended, e := x.Take(); s != r.want || !ended || e != api.OK {
				t.Errorf("P10: %s: read %d of %q = %q, %v, %d, want %q", c.why, i+1, c.s, s, ended, e, r.want)
			}
		}
		if entries(x) != c.left || x.Status().In != len(x.in) {
			t.Errorf("P10: %s: there is left %q, want %q", c.why, entries(x), c.left)
		}
	}
}

func TestReadsOfLinesWait(t *testing.T) {
	// Min and Time say nothing with Lines.
	for _, change := range []func(*api.Settings){plain, char(api.Min, 0), all(char(api.Min, 0), char(api.Time, 1)), char(api.Time, 1), char(api.Min, 2)} {
		x := with(t, all(silent, change))
		begin(t, x, 2)
		goesOn(t, x, "nothing came")
		x.Receive(api.Good, "abc")
		ticks(x, 300)
		goesOn(t, x, "no line has ended")
		x.Receive(api.Good, "\n")
		has(t, x, "a line has ended", "ab")
	}
}

func TestReadsOfBytes(t *testing.T) {
	for _, c := range []struct {
		why            string
		least, time, n int
		ahead          string
		events         string // each letter comes, each '.' is a Tick
		want           string // what it has behind the last of them, and not ahead of it; "-": it goes on
	}{
		{"at once, nothing", 0, 0, 5, "", "", ""},
		{"at once, some", 0, 0, 5, "ab", "", "ab"},
		{"at once, some of them", 0, 0, 2, "abc", "", "ab"},
		{"Min 0: a byte is there", 0, 9, 5, "ab", "", "ab"},
		{"Min 0: a byte comes", 0, 3, 5, "", "..a", "a"},
		{"Min 0: the time passes", 0, 3, 5, "", "...", ""},
		{"Min 0: it has not passed", 0, 3, 5, "", "..", "-"},
		{"Min 0: one Tick", 0, 1, 5, "", ".", ""},
		{"Min 0: the longest time", 0, 255, 5, "", strings.Repeat(".", 255), ""},
		{"Min 0: nearly the longest time", 0, 255, 5, "", strings.Repeat(".", 254), "-"},
		{"Time 0: Min comes", 3, 0, 5, "", "a..b.c", "abc"},
		{"Time 0: Min is there", 3, 0, 5, "abc", "", "abc"},
		{"Time 0: more is there", 3, 0, 5, "abcd", "", "abcd"},
		{"Time 0: more than n is there", 3, 0, 4, "abcdef", "", "abcd"},
		{"Time 0: some are there", 3, 0, 5, "ab", "c", "abc"},
		{"Time 0: too few come", 3, 0, 5, "a", "b" + strings.Repeat(".", 300), "-"},
		{"Time 0: n is less than Min", 3, 0, 2, "", "a.b", "ab"},
		{"Time 0: n is less than Min, and not reached", 3, 0, 2, "", "a", "-"},
		{"Time 0: n is Min", 2, 0, 2, "", "ab", "ab"},
		{"Time 0: the greatest Min", 255, 0, 256, strings.Repeat("x", 254), "y", strings.Repeat("x", 254) + "y"},
		{"both: Min comes", 2, 3, 5, "", "a..b", "ab"},
		{"both: Min is there", 2, 3, 5, "abc", "", "abc"},
		{"both: n is less than Min", 9, 3, 2, "", "a.b", "ab"},
		{"both: the time passes behind a byte", 3, 2, 5, "", "a.b..", "ab"},
		{"both: the time passes behind the read, with a byte there", 3, 2, 5, "x", "..", "x"},
		{"both: a byte that comes lets it begin anew", 3, 2, 5, "x", ".a.", "-"},
		{"both: without a byte no time ends it", 3, 2, 5, "", strings.Repeat(".", 300), "-"},
		{"both: behind a long time the byte's own counts", 3, 2, 5, "", "....a..", "a"},
		{"both: the longest time", 3, 255, 5, "x", strings.Repeat(".", 255), "x"},
		{"both: nearly the longest time", 3, 255, 5, "x", strings.Repeat(".", 254), "-"},
	} {
		x := with(t, raw(c.least, c.time))
		x.Receive(api.Good, c.ahead)
		ticks(x, 7) // ahead of the read they count for nothing
		begin(t, x, c.n)
		for i := range len(c.events) {
			goesOn(t, x, c.why)
			if c.events[i] == '.' {
				x.Tick()
			} else {
				x.Receive(api.Good, c.events[i:i+1])
			}
		}
		if c.want == "-" {
			goesOn(t, x, c.why)
			continue
		}
		has(t, x, c.why, c.want)
		if came := c.ahead + strings.ReplaceAll(c.events, ".", ""); entries(x) != came[len(c.want):] {
			t.Errorf("P10: %s: there is left %q", c.why, entries(x))
		}
	}
}

func TestEveryReadOfTheFullQueue(t *testing.T) {
	for n := 1; n <= 256; n++ {
		x := with(t, raw(255, 9))
		x.Receive(api.Good, allOfThem())
		if x.Status().In != 256 {
			t.Fatalf("P7: %+v", x.Status())
		}
		begin(t, x, n)
		has(t, x, "without Lines", allOfThem()[:n])
		if entries(x) != allOfThem()[n:] {
			t.Errorf("P10: behind Read(%d) there is left %q", n, entries(x))
		}
	}
}

// allOfThem has 256 bytes of many kinds, none of which means anything to a raw terminal but as itself.
func allOfThem() string {
	return strings.Repeat("abcdefg \t\xff\x00\x80\x04\x7f\n;", 16)
}

func TestTheWaitBeginsAnew(t *testing.T) {
	for _, c := range []struct {
		why  string
		do   func(x *Terminal)
		anew bool
	}{
		{"nothing", func(x *Terminal) {}, false},
		{"a byte", func(x *Terminal) { x.Receive(api.Good, "b") }, true},
		{"a wrong byte", func(x *Terminal) { x.Receive(api.Parity, "b") }, true},
		{"a break", func(x *Terminal) { x.Receive(api.Break, "") }, true},
		{"no byte", func(x *Terminal) { x.Receive(api.Good, "") }, false},
		{"Stop and Start", func(x *Terminal) { x.Receive(api.Good, "\x13\x11") }, false},
		{"a byte that is left out", func(x *Terminal) { reset(t, x, in(api.IgnoreCR)); x.Receive(api.Good, "\r") }, false},
		{"a wrong byte that is left out", func(x *Terminal) { reset(t, x, in(api.IgnoreParity)); x.Receive(api.Parity, "b") }, false},
		{"a break that is left out", func(x *Terminal) { reset(t, x, in(api.IgnoreBreak)); x.Receive(api.Break, "") }, false},
		{"a signal", func(x *Terminal) { reset(t, x, local(api.NoFlush)); x.Receive(api.Good, "\x03") }, false},
		{"Write and Drain", func(x *Terminal) { x.Write("w"); x.Drain(9) }, false},
		{"Set", func(x *Terminal) { x.Set(x.Get(), api.Now) }, false},
		{"Flush of the output queue", func(x *Terminal) { x.Flush(api.Output) }, false},
		{"Flow", func(x *Terminal) { x.Flow(api.Hold); x.Flow(api.Go); x.Flow(api.SendStop); x.Flow(api.SendStart) }, false},
		{"Take of a read that goes on", func(x *Terminal) { x.Take() }, false},
		{"a Read that is refused", func(x *Terminal) { x.Read(5); x.Read(0) }, false},
		{"telling", func(x *Terminal) { x.Get(); x.Status(); x.Signals() }, false},
	} {
		x := with(t, raw(9, 3))
		x.Receive(api.Good, "a")
		begin(t, x, 9)
		ticks(x, 2)
		c.do(x)
		goesOn(t, x, c.why)
		x.Tick()
		if _, ended, _ := x.Take(); ended == c.anew {
			t.Errorf("P10: %s: a Tick behind it the read has ended: %v", c.why, ended)
		}
		if !c.anew {
			continue
		}
		x.Tick()
		goesOn(t, x, c.why)
		x.Tick()
		if s, ended, _ := x.Take(); !ended || s[0] != 'a' {
			t.Errorf("P10: %s: three Ticks behind it: %q, %v", c.why, s, ended)
		}
	}
}

func TestWhatIsLostDoesNotBeginTheWaitAnew(t *testing.T) {
	x := with(t, all(silent, char(api.Min, 255), char(api.Time, 2)))
	x.Receive(api.Good, strings.Repeat("x", 255))
	begin(t, x, 256)
	x.Tick()
	x.Receive(api.Good, "y\x7f\x7f")
	x.Tick()
	// The entries came with Lines; the wait goes on when it is not set any more.
	reset(t, x, raw(255, 2))
	has(t, x, "two Ticks", strings.Repeat("x", 253))
}

func TestEntriesOfALineBeginTheWaitAnew(t *testing.T) {
	for _, s := range []string{"b", "\x16\x04", "b\x7f", "bcd\x15x"} {
		x := with(t, silent)
		x.Receive(api.Good, "a")
		begin(t, x, 9)
		ticks(x, 2)
		x.Receive(api.Good, s)
		x.Tick()
		reset(t, x, raw(9, 2))
		goesOn(t, x, "one Tick behind an entry")
		x.Tick()
		if _, ended, _ := x.Take(); !ended {
			t.Errorf("P10: %q: two Ticks behind an entry it goes on", s)
		}
	}
}

func TestTheWaitIsEachReadsOwn(t *testing.T) {
	x := with(t, raw(0, 2))
	begin(t, x, 5)
	ticks(x, 9)
	has(t, x, "the first", "")
	x.Tick()
	begin(t, x, 5)
	goesOn(t, x, "the second, at once")
	x.Tick()
	goesOn(t, x, "the second, a Tick later")
	x.Tick()
	has(t, x, "the second", "")
}

func TestALongWaitDoesNotEndTooEarlyOrNever(t *testing.T) {
	x := with(t, raw(9, 255))
	begin(t, x, 9)
	ticks(x, 100000)
	x.Receive(api.Good, "a")
	ticks(x, 254)
	goesOn(t, x, "254 Ticks behind a")
	x.Tick()
	has(t, x, "255 Ticks behind a", "a")
	// With Lines it waits as long as it must, and is late by any Time then.
	y := with(t, silent)
	y.Receive(api.Good, "b")
	begin(t, y, 9)
	ticks(y, 100000)
	reset(t, y, raw(9, 255))
	has(t, y, "late for long", "b")
}

func TestAReadEndsBehindEachThingThatCame(t *testing.T) {
	x := with(t, silent)
	begin(t, x, 9)
	// The signal would have thrown the line away, the end of a file is behind it.
	x.Receive(api.Good, "ab\n\x03c\x04d\n")
	has(t, x, "the first line", "ab\n")
	if entries(x) != "cEOF|d\n|" {
		t.Errorf("P10: there is left %q", entries(x))
	}
	y := with(t, raw(2, 0))
	begin(t, y, 5)
	y.Receive(api.Good, "abcd")
	has(t, y, "as soon as there are two", "ab")
	begin(t, y, 1)
	has(t, y, "one that is there", "c")
	y.Receive(api.Good, "\x03")
	// A signal leaves the read, and Min counts what is there.
	begin(t, y, 5)
	y.Receive(api.Good, "e\x03f")
	goesOn(t, y, "the first of two was thrown away")
	y.Receive(api.Parity, "gh")
	has(t, y, "two wrong bytes, one after the other", "f\x00")
	begin(t, y, 1)
	has(t, y, "the other one", "\x00")
	begin(t, y, 9)
	y.Receive(api.Break, "")
	y.Receive(api.Break, "")
	has(t, y, "two breaks", "\x00\x00")
}

func TestBytesLaidDownTogetherAreOneThing(t *testing.T) {
	for _, c := range []struct {
		n          int
		kind       int
		s          string
		want, left string
	}{
		{9, api.Parity, "p", "\xff\x00p", ""},
		{2, api.Parity, "pq", "\xff\x00", "p\xff\x00q"},
		{9, api.Parity, "pq", "\xff\x00p", "\xff\x00q"},
		{9, api.Break, "", "\xff\x00\x00", ""},
		{9, api.Good, "\xffa", "\xff\xff", "a"},
		{1, api.Good, "\xff", "\xff", "\xff"},
	} {
		x := with(t, all(raw(1, 0), in(api.MarkParity)))
		begin(t, x, c.n)
		x.Receive(c.kind, c.s)
		has(t, x, "what was laid down for one thing", c.want)
		if entries(x) != c.left {
			t.Errorf("P10: there is left %q, want %q", entries(x), c.left)
		}
	}
}

func TestAReadEndsBehindSet(t *testing.T) {
	for _, c := range []struct {
		why       string
		first     func(*api.Settings)
		ahead     string
		ticks     int
		change    func(*api.Settings)
		ended     bool
		has, left string
	}{
		{"less is enough", raw(3, 0), "ab", 0, char(api.Min, 2), true, "ab", ""},
		{"not enough yet", raw(5, 0), "ab", 0, char(api.Min, 3), false, "", "ab"},
		{"no Min, no Time", raw(5, 0), "", 0, char(api.Min, 0), true, "", ""},
		{"no Min, and a Time that has passed", raw(5, 0), "", 2, all(char(api.Min, 0), char(api.Time, 2)), true, "", ""},
		{"no Min, and a Time that has not passed", raw(5, 0), "", 2, all(char(api.Min, 0), char(api.Time, 3)), false, "", ""},
		{"a Time that has passed", raw(5, 9), "ab", 2, char(api.Time, 2), true, "ab", ""},
		{"a Time that has not passed", raw(5, 9), "ab", 2, char(api.Time, 3), false, "", "ab"},
		{"lines become bytes", silent, "ab", 0, without(api.Lines), true, "ab", ""},
		{"lines become bytes, and nothing is there", silent, "", 0, without(api.Lines), false, "", ""},
		{"lines become bytes, and none is asked for", silent, "", 0, raw(0, 0), true, "", ""},
		{"bytes become lines", raw(9, 0), "a\nb", 0, local(api.Lines), false, "", "a\nb"},
		{"bytes become lines, whatever Min and Time are", raw(9, 10), "a\nb", 9, all(local(api.Lines), char(api.Min, 0), char(api.Time, 0)), false, "", "a\nb"},
		{"no change", raw(3, 0), "ab", 0, plain, false, "", "ab"},
	} {
		x := with(t, c.first)
		begin(t, x, 9)
		x.Receive(api.Good, c.ahead)
		ticks(x, c.ticks)
		// (An end that is looked for too late would be seen by the Status, ahead of Take.)
		reset(t, x, c.change)
		if entries(x) != c.left {
			t.Errorf("P10: %s: there is left %q, want %q", c.why, entries(x), c.left)
		}
		if s, ended, e := x.Take(); s != c.has || ended != c.ended || e != api.OK {
			t.Errorf("P10: %s: Take = %q, %v, %d, want %q, %v", c.why, s, ended, e, c.has, c.ended)
		}
	}
}

func TestSetWithFlushLeavesTheRead(t *testing.T) {
	x := with(t, raw(3, 0))
	begin(t, x, 9)
	x.Receive(api.Good, "ab")
	s := x.Get()
	s.Chars[api.Min] = 2
	if e := x.Set(s, api.Flush); e != api.OK {
		t.Errorf("P4: Set = %d", e)
	}
	goesOn(t, x, "the input queue was emptied first")
	x.Receive(api.Good, "cd")
	has(t, x, "what came behind it", "cd")
}

func TestASetThatIsRefusedEndsNoRead(t *testing.T) {
	x := with(t, raw(3, 0))
	begin(t, x, 9)
	x.Receive(api.Good, "ab")
	x.Write("w")
	s := x.Get()
	s.Chars[api.Min] = 1
	for _, when := range []int{api.Drain, api.Flush, 3} {
		if e := x.Set(s, when); e == api.OK {
			t.Errorf("P4: Set at %d = %d", when, e)
		}
		goesOn(t, x, "Set was refused")
	}
	if entries(x) != "ab" {
		t.Errorf("P1: there is left %q", entries(x))
	}
}

func TestWhatAReadHasIsKeptApart(t *testing.T) {
	x := with(t, silent)
	x.Receive(api.Good, "ab\ncd\n")
	begin(t, x, 9)
	x.Receive(api.Good, "\x7f\x15\x03ef\n")
	x.Set(x.Get(), api.Flush)
	reset(t, x, raw(0, 1))
	ticks(x, 9)
	x.Receive(api.Good, strings.Repeat("z", 300))
	if x.Status().In != 256 {
		t.Errorf("P10: a read that has ended goes on to take: %+v", x.Status())
	}
	has(t, x, "whatever happens behind its end", "ab\n")
	begin(t, x, 3)
	s, _, _ := x.Take()
	begin(t, x, 253)
	x.Receive(api.Good, strings.Repeat("y", 256))
	if s != "zzz" {
		t.Errorf("P2: what was told changed later: %q", s)
	}
	has(t, x, "the rest", strings.Repeat("z", 253))
}

func TestAReadIsOfItsOwnTerminal(t *testing.T) {
	x, y := with(t, raw(0, 2)), with(t, raw(0, 2))
	begin(t, x, 5)
	noRead(t, y, "P2: another one's read")
	begin(t, y, 5)
	ticks(x, 5)
	goesOn(t, y, "P2: another one's time")
	x.Receive(api.Good, "a")
	goesOn(t, y, "P2: what came to another one")
	has(t, x, "its own", "")
	if entries(x) != "a" || entries(y) != "" {
		t.Errorf("P2: there is left %q, %q", entries(x), entries(y))
	}
}

func TestEchoAndReadsAreApart(t *testing.T) {
	x := New()
	begin(t, x, 9)
	x.Receive(api.Good, "ab\r")
	has(t, x, "a line", "ab\n")
	if sent := drained(t, x); sent != "ab\r\n" {
		t.Errorf("P7: sent %q", sent)
	}
	// Cells and what is rubbed out are those of the pending line, whatever was read ahead of it.
	x.Receive(api.Good, "cd\ne\tf")
	begin(t, x, 1)
	has(t, x, "a part of the line ahead", "c")
	drained(t, x)
	x.Receive(api.Good, "\x7f\x7f\x7f\x7f")
	if sent := drained(t, x); sent != "\b \b"+strings.Repeat("\b", 7)+"\b \b" || entries(x) != "d\n|" {
		t.Errorf("P8: sent %q, there is left %q", sent, entries(x))
	}
}

func TestAReadComesAheadOfTheFlow(t *testing.T) {
	// A line of 192 entries would hold the other side, but is read ahead of that.
	x := with(t, flowing)
	begin(t, x, 256)
	x.Receive(api.Good, strings.Repeat("x", 191)+"\n")
	if sent := drained(t, x); sent != "" || x.Status().Held || x.Status().In != 0 {
		t.Errorf("P10: sent %q, %+v", sent, x.Status())
	}
	has(t, x, "the line", strings.Repeat("x", 191)+"\n")
	// Bytes without Lines: the 192nd is read.
	y := with(t, all(raw(192, 0), in(api.FlowIn)))
	begin(t, y, 192)
	y.Receive(api.Good, strings.Repeat("y", 193))
	if sent := drained(t, y); sent != "" || y.Status().Held || y.Status().In != 1 {
		t.Errorf("P10: sent %q, %+v", sent, y.Status())
	}
}

func TestReadsLetTheOtherSideGoOn(t *testing.T) {
	x := with(t, all(raw(1, 0), in(api.FlowIn)))
	x.Receive(api.Good, strings.Repeat("x", 256))
	if sent := drained(t, x); sent != "\x13" || !x.Status().Held {
		t.Fatalf("P9: sent %q, %+v", sent, x.Status())
	}
	for _, c := range []struct {
		n    int
		sent string
		left int
	}{{100, "", 156}, {91, "", 65}, {1, "\x11", 64}, {64, "", 0}} {
		begin(t, x, c.n)
		if sent := drained(t, x); sent != c.sent || x.Status().In != c.left || x.Status().Held != (c.left > 64) {
			t.Errorf("P9: behind Read(%d): sent %q, %+v", c.n, sent, x.Status())
		}
		has(t, x, "some", strings.Repeat("x", c.n))
	}
	// Behind a Tick: 192 entries, of which the read has all.
	reset(t, x, raw(255, 1))
	begin(t, x, 256)
	x.Receive(api.Good, strings.Repeat("y", 192))
	if sent := drained(t, x); sent != "\x13" || !x.Status().Held {
		t.Errorf("P9: sent %q, %+v", sent, x.Status())
	}
	x.Tick()
	if sent := drained(t, x); sent != "\x11" || x.Status().Held || x.Status().In != 0 {
		t.Errorf("P9: behind a Tick: sent %q, %+v", sent, x.Status())
	}
	has(t, x, "all", strings.Repeat("y", 192))
	// Behind a Set, by which the read can end.
	reset(t, x, raw(255, 0))
	begin(t, x, 256)
	x.Receive(api.Good, strings.Repeat("z", 200))
	reset(t, x, raw(9, 0))
	if sent := drained(t, x); sent != "\x13\x11" || x.Status().Held || x.Status().In != 0 {
		t.Errorf("P9: behind Set: sent %q, %+v", sent, x.Status())
	}
}

func TestFlowInSetAsTheReadEnds(t *testing.T) {
	x := with(t, raw(255, 0))
	begin(t, x, 256)
	x.Receive(api.Good, strings.Repeat("x", 200))
	reset(t, x, all(in(api.FlowIn), char(api.Min, 1)))
	if sent := drained(t, x); sent != "" || x.Status().Held {
		t.Errorf("P10: the flow came ahead of the read: sent %q, %+v", sent, x.Status())
	}
	has(t, x, "all", strings.Repeat("x", 200))
}

package clack_test

import (
	"fmt"
	"math"
	"strings"
	"testing"

	"clack/api"
	"clack/clack"
)

// withOut is a new terminal with these flags of what goes out.
func withOut(t *testing.T, flags int) *clack.Terminal {
	t.Helper()
	x := clack.New()
	s := x.Get()
	s.Out = flags
	if e := x.Set(s, api.Now); e != api.OK {
		t.Fatalf("P4: Set = %d", e)
	}
	return x
}

// allBytes has each byte once.
func allBytes() string {
	var b strings.Builder
	for i := range 256 {
		b.WriteByte(byte(i))
	}
	return b.String()
}

// oddNumbers are the edges that a number can be given at.
var oddNumbers = []int{math.MinInt, math.MinInt + 1, -256, -1, 0, 1, 2, 3, 4, 5, 255, 256, 257, math.MaxInt - 1, math.MaxInt}

// oddSettings have the number everywhere.
func oddSettings(n int) api.Settings {
	s := api.Settings{In: n, Out: n, Local: n}
	for place := range s.Chars {
		s.Chars[place] = n
	}
	return s
}

func TestEveryCallEnds(t *testing.T) {
	x := clack.New()
	odd := []string{"", "\x00", allBytes(), strings.Repeat("\t", 999), strings.Repeat("\r", 99999), strings.Repeat("\n", 300), "\xff\xfe", "\u00e9\u2028"}
	for _, n := range oddNumbers {
		for _, m := range oddNumbers {
			x.Set(oddSettings(n), m)
			x.Read(m)
			for _, s := range odd {
				x.Write(s)
				x.Receive(m, s)
			}
			if s, ended, e := x.Take(); e != api.OK && (s != "" || ended) {
				t.Errorf("P1: Take = %q, %v, %d", s, ended, e)
			}
			x.Tick()
			x.Flow(m)
			x.Flush(m)
			x.Get()
			x.Status()
			x.Signals()
			if sent, e := x.Drain(m); e != api.OK && sent != "" {
				t.Errorf("P1: Drain(%d) = %q, %d", m, sent, e)
			}
		}
	}
}

func TestErrorsChangeNothing(t *testing.T) {
	x := clack.New()
	x.Write("abc")
	settings, status := x.Get(), x.Status()
	for _, c := range []struct {
		name string
		call func() api.Errno
		want api.Errno
	}{
		{"Set(-1)", func() api.Errno { return x.Set(api.Settings{}, -1) }, api.ErrKind},
		{"Set(3)", func() api.Errno { return x.Set(api.Settings{}, 3) }, api.ErrKind},
		{"Set(MinInt)", func() api.Errno { return x.Set(api.Settings{}, math.MinInt) }, api.ErrKind},
		{"Set(MaxInt)", func() api.Errno { return x.Set(api.Settings{}, math.MaxInt) }, api.ErrKind},
		{"Set(256)", func() api.Errno { return x.Set(api.Settings{}, 256) }, api.ErrKind},
		{"Set(Drain)", func() api.Errno { return x.Set(api.Settings{}, api.Drain) }, api.ErrBusy},
		{"Set(Flush)", func() api.Errno { return x.Set(api.Settings{}, api.Flush) }, api.ErrBusy},
		{"Drain(-1)", func() api.Errno { _, e := x.Drain(-1); return e }, api.ErrSize},
		{"Drain(MinInt)", func() api.Errno { _, e := x.Drain(math.MinInt); return e }, api.ErrSize},
		{"Take()", func() api.Errno { _, _, e := x.Take(); return e }, api.ErrNone},
		{"Read(0)", func() api.Errno { return x.Read(0) }, api.ErrSize},
		{"Read(257)", func() api.Errno { return x.Read(257) }, api.ErrSize},
		{"Flush(0)", func() api.Errno { return x.Flush(0) }, api.ErrKind},
		{"Flush(4)", func() api.Errno { return x.Flush(4) }, api.ErrKind},
		{"Flow(0)", func() api.Errno { return x.Flow(0) }, api.ErrKind},
		{"Flow(5)", func() api.Errno { return x.Flow(5) }, api.ErrKind},
		{"Take() behind them", func() api.Errno { _, _, e := x.Take(); return e }, api.ErrNone},
	} {
		if e := c.call(); e != c.want {
			t.Errorf("P1: %s = %d, want %d", c.name, e, c.want)
		}
		if x.Get() != settings || x.Status() != status {
			t.Errorf("P1: %s changed it: %+v, %+v", c.name, x.Get(), x.Status())
		}
	}
	if sent, e := x.Drain(9); sent != "abc" || e != api.OK {
		t.Errorf("P1: behind errors there was sent %q, %d", sent, e)
	}
}

func TestAnswersAreNewMemory(t *testing.T) {
	x := clack.New()
	s := x.Get()
	s.Chars[api.Intr] = 99
	if x.Get().Chars[api.Intr] != 3 {
		t.Errorf("P2: what Get told is the terminal's own")
	}
	x.Set(s, api.Now)
	s.Chars[api.Intr] = 98
	if x.Get().Chars[api.Intr] != 99 {
		t.Errorf("P2: what Set was given is the terminal's own")
	}
	x.Write("abcd")
	first, _ := x.Drain(2)
	x.Write("efgh")
	second, _ := x.Drain(3)
	x.Write(strings.Repeat("z", 250))
	if first != "ab" || second != "cde" {
		t.Errorf("P2: what was told changed later: %q, %q", first, second)
	}
}

func TestTerminalsDoNotKnowOfEachOther(t *testing.T) {
	x, y := withOut(t, api.Process|api.Tabs), clack.New()
	for range 100 {
		x.Write("a\t")
		if s := y.Status(); s != (api.Status{}) {
			t.Fatalf("P2: another one's Write changed it: %+v", s)
		}
	}
	y.Write("b")
	if y.Get().Out != api.Process|api.NLtoCRNL {
		t.Errorf("P2: another one's Set changed it: %+v", y.Get())
	}
	if sent, _ := y.Drain(9); sent != "b" {
		t.Errorf("P2: it sent %q", sent)
	}
	if s := x.Status(); s.Out != 256 || s.Column != 256 {
		t.Errorf("P2: %+v", s)
	}
	x.Receive(api.Good, "\x13\x03ab\x16")
	x.Flow(api.SendStop)
	if sent, _ := y.Drain(9); sent != "" {
		t.Errorf("P2: another one's Flow made %q urgent", sent)
	}
	if s := y.Status(); s != (api.Status{Column: 1}) || len(y.Signals()) != 0 {
		t.Errorf("P2: what came to another one changed it: %+v", s)
	}
}

func TestFlushAndFlowAreOfTheirOwnTerminal(t *testing.T) {
	x, y := clack.New(), clack.New()
	y.Receive(api.Good, "ab\n")
	x.Flow(api.Hold)
	x.Flush(api.Both)
	if s := y.Status(); s != (api.Status{In: 3, Out: 4}) {
		t.Errorf("P2: another one's Flow and Flush changed it: %+v", s)
	}
}

func TestSameCallsSameAnswers(t *testing.T) {
	run := func() []string {
		x := withOut(t, api.AllOut)
		var told []string
		for i := range 40 {
			x.Write(allBytes()[i:])
			x.Receive(i%3, allBytes()[6*i:])
			sent, _ := x.Drain(7 * i)
			told = append(told, sent, fmt.Sprint(x.Read(1+5*i), x.Signals(), x.Status()))
			x.Tick()
			read, ended, e := x.Take()
			told = append(told, fmt.Sprint(read, ended, e, x.Status()))
			told = append(told, fmt.Sprint(x.Flow(i%6), x.Flush(i%11), x.Status()))
		}
		return told
	}
	first, second := run(), run()
	for i := range first {
		if first[i] != second[i] {
			t.Errorf("P2: the same calls: %q and %q", first[i], second[i])
		}
	}
}

func TestNewTerminal(t *testing.T) {
	x := clack.New()
	want := api.Settings{In: 128 + 512, Out: 1 + 2, Local: 1 + 2 + 4 + 8 + 16 + 64 + 128 + 512, Chars: [14]int{3, 28, 26, 127, 23, 21, 4, 0, 17, 19, 22, 18, 1, 0}}
	if s := x.Get(); s != want {
		t.Errorf("P3: the settings are %+v, want %+v", s, want)
	}
	if s := x.Status(); s != (api.Status{}) {
		t.Errorf("P3: Status = %+v", s)
	}
	if sent, e := x.Drain(math.MaxInt); sent != "" || e != api.OK {
		t.Errorf("P3: Drain = %q, %d", sent, e)
	}
	if signals := x.Signals(); len(signals) != 0 {
		t.Errorf("P3: Signals = %v", signals)
	}
	if s, ended, e := x.Take(); s != "" || ended || e != api.ErrNone {
		t.Errorf("P3: Take = %q, %v, %d", s, ended, e)
	}
	if x == clack.New() {
		t.Errorf("P3: New told the same terminal twice")
	}
}

func TestSetKeepsWhatThereIs(t *testing.T) {
	for _, c := range []struct{ given, in, out, local, char int }{
		{0, 0, 0, 0, 0},
		{-1, 8191, 127, 1023, 255},
		{1, 1, 1, 1, 1},
		{255, 255, 127, 255, 255},
		{256, 256, 0, 256, 0},
		{8191, 8191, 127, 1023, 255},
		{8192, 0, 0, 0, 0},
		{1024 + 128 + 5, 1024 + 128 + 5, 5, 128 + 5, 128 + 5},
		{-256, 8191 - 255, 0, 1023 - 255, 0},
		{math.MaxInt, 8191, 127, 1023, 255},
		{math.MinInt, 0, 0, 0, 0},
		{math.MinInt + 3, 3, 3, 3, 3},
	} {
		want := api.Settings{In: c.in, Out: c.out, Local: c.local}
		for place := range want.Chars {
			want.Chars[place] = c.char
		}
		for _, when := range []int{api.Now, api.Drain, api.Flush} {
			x := clack.New()
			if e := x.Set(oddSettings(c.given), when); e != api.OK || x.Get() != want {
				t.Errorf("P4: Set of %d at %d = %d; they are %+v, want %+v", c.given, when, e, x.Get(), want)
			}
		}
	}
}

func TestSetKeepsEachCharacterAtItsPlace(t *testing.T) {
	x := clack.New()
	var s api.Settings
	for place := range s.Chars {
		s.Chars[place] = 256 + 10 + place
	}
	x.Set(s, api.Now)
	for place, char := range x.Get().Chars {
		if char != 10+place {
			t.Errorf("P4: the character at place %d is %d", place, char)
		}
	}
}

func TestSetWaitsForTheOutputQueue(t *testing.T) {
	x := clack.New()
	x.Write("ab")
	x.Drain(1)
	for _, when := range []int{api.Drain, api.Flush} {
		if e := x.Set(api.Settings{}, when); e != api.ErrBusy {
			t.Errorf("P4: Set at %d with a byte to be sent = %d", when, e)
		}
	}
	if e := x.Set(api.Settings{In: 1}, api.Now); e != api.OK || x.Get().In != 1 || x.Status().Out != 1 {
		t.Errorf("P4: Set now with a byte to be sent = %d; %+v", e, x.Status())
	}
	x.Drain(1)
	for i, when := range []int{api.Drain, api.Flush} {
		if e := x.Set(api.Settings{In: 2 + i}, when); e != api.OK || x.Get().In != 2+i {
			t.Errorf("P4: Set at %d with all sent = %d", when, e)
		}
	}
}

func TestSetLeavesTheColumn(t *testing.T) {
	x := clack.New()
	x.Write("abc")
	x.Set(api.Settings{Out: api.Process | api.Tabs}, api.Now)
	x.Write("\t")
	if sent, _ := x.Drain(99); sent != "abc     " || x.Status().Column != 8 {
		t.Errorf("P5: %q, %+v", sent, x.Status())
	}
}

func TestWriteByTheFlags(t *testing.T) {
	for _, c := range []struct {
		flags    int
		in, want string
		column   int
	}{
		{0, "aB\tc\nd\re\b\x01\x7f\xff", "aB\tc\nd\re\b\x01\x7f\xff", 1},
		{api.AllOut &^ api.Process, "a\t\n\rb\t", "a\t\n\rb\t", 8},
		{api.Process, "a\nb", "a\nb", 2},
		{api.Process | api.NLReturns, "a\nb", "a\nb", 1},
		{api.NLReturns, "a\nb", "a\nb", 2},
		{api.Process | api.NLtoCRNL, "a\nb", "a\r\nb", 1},
		{api.Process | api.Upper, "az`{AZ@[\xe0\xfe", "AZ`{AZ@[\xe0\xfe", 10},
		{api.Process | api.Tabs, "1234567\t8\t", "1234567 8       ", 16},
		{api.Process | api.Tabs, "12345678\t", "12345678        ", 16},
		{api.Process | api.NoCRAtZero, "\r\ra\r\r", "a\r", 0},
		{api.Process | api.CRtoNLOut, "ab\r", "ab\n", 2},
		{api.Process | api.CRtoNLOut | api.NLtoCRNL, "ab\r\n", "ab\n\r\n", 0},
		{api.Process | api.CRtoNLOut | api.NoCRAtZero, "\ra\r", "a\n", 1},
		{api.AllOut, "\rab\t\n\rc\r\r", "AB      \r\nC\n", 0},
		{api.Process, "ab\b\b\b\bc", "ab\b\b\b\bc", 1},
		{api.Process, "a\x00\x07\x1f\x7f\x80 ~", "a\x00\x07\x1f\x7f\x80 ~", 4},
	} {
		x := withOut(t, c.flags)
		if n := x.Write(c.in); n != len(c.in) {
			t.Errorf("P5: flags %d: Write(%q) = %d", c.flags, c.in, n)
		}
		if s := x.Status(); s.Out != len(c.want) || s.Column != c.column {
			t.Errorf("P5: flags %d: behind %q: %+v, want column %d", c.flags, c.in, s, c.column)
		}
		if sent, e := x.Drain(99); sent != c.want || e != api.OK {
			t.Errorf("P5: flags %d: of %q there was sent %q, %d, want %q", c.flags, c.in, sent, e, c.want)
		}
	}
}

func TestWriteEndsAtTheFirstWithoutRoom(t *testing.T) {
	for _, c := range []struct {
		flags, waiting int
		in             string
		n, out, column int
	}{
		{0, 0, strings.Repeat("y", 1000), 256, 256, 256},
		{0, 255, "y", 1, 256, 256},
		{0, 256, "y", 0, 256, 256},
		{0, 256, "", 0, 256, 256},
		{api.Process | api.NLtoCRNL, 255, "\ny", 0, 255, 255},
		{api.Process | api.NLtoCRNL, 253, "\n\ny", 1, 255, 0},
		{api.Process | api.Tabs, 240, "\t\t\t", 2, 256, 256},
		{api.Process | api.Tabs, 250, "\r\ty", 1, 251, 0},
		{api.Process | api.NoCRAtZero, 255, "\r\r\ry", 3, 256, 0},
	} {
		x := withOut(t, 0)
		x.Write(strings.Repeat("x", c.waiting))
		x.Set(api.Settings{Out: c.flags}, api.Now)
		if n := x.Write(c.in); n != c.n {
			t.Errorf("P5: flags %d: Write(%.9q) behind %d bytes = %d, want %d", c.flags, c.in, c.waiting, n, c.n)
		}
		if s := x.Status(); s.Out != c.out || s.Column != c.column {
			t.Errorf("P5: flags %d: %.9q behind %d bytes: %+v, want %d, column %d", c.flags, c.in, c.waiting, s, c.out, c.column)
		}
	}
}

func TestDrainTellsInOrder(t *testing.T) {
	x := withOut(t, 0)
	x.Write("abcdef")
	for _, c := range []struct {
		n    int
		want string
		e    api.Errno
	}{
		{0, "", api.OK}, {-1, "", api.ErrSize}, {1, "a", api.OK}, {2, "bc", api.OK},
		{math.MinInt, "", api.ErrSize}, {math.MaxInt, "def", api.OK}, {math.MaxInt, "", api.OK}, {0, "", api.OK},
	} {
		if sent, e := x.Drain(c.n); sent != c.want || e != c.e {
			t.Errorf("P6: Drain(%d) = %q, %d, want %q, %d", c.n, sent, e, c.want, c.e)
		}
	}
}

func TestDrainMakesRoom(t *testing.T) {
	x := withOut(t, 0)
	var given, sent strings.Builder
	for i := range 500 {
		s := strings.Repeat(string(rune('a'+i%26)), i%300)
		given.WriteString(s[:x.Write(s)])
		told, _ := x.Drain(i % 97)
		sent.WriteString(told)
		if out := x.Status().Out; out > api.MaxOut || out != given.Len()-sent.Len() {
			t.Fatalf("P6: %d bytes wait, of %d given and %d sent", out, given.Len(), sent.Len())
		}
	}
	told, _ := x.Drain(api.MaxOut)
	sent.WriteString(told)
	if given.String() != sent.String() {
		t.Errorf("P6: what was sent is not what was put out")
	}
}

func TestStatusTellsTheOutputQueue(t *testing.T) {
	x := clack.New()
	x.Write("ab\n\tc")
	if s := x.Status(); s != (api.Status{Out: 6, Column: 9}) {
		t.Errorf("P12: %+v", s)
	}
	x.Drain(4)
	if s := x.Status(); s != (api.Status{Out: 2, Column: 9}) {
		t.Errorf("P12: %+v", s)
	}
}

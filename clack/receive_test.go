package clack

import (
	"math"
	"slices"
	"strconv"
	"strings"
	"testing"

	"clack/api"
)

// with is a new terminal whose settings are changed.
func with(t *testing.T, change func(s *api.Settings)) *Terminal {
	t.Helper()
	x := New()
	s := x.Get()
	change(&s)
	if e := x.Set(s, api.Now); e != api.OK {
		t.Fatalf("P4: Set = %d", e)
	}
	return x
}

// reset changes the settings of a terminal that is there already.
func reset(t *testing.T, x *Terminal, change func(s *api.Settings)) {
	t.Helper()
	s := x.Get()
	change(&s)
	if e := x.Set(s, api.Now); e != api.OK {
		t.Fatalf("P4: Set = %d", e)
	}
}

// plain changes nothing.
func plain(*api.Settings) {}

// silent is without echo.
func silent(s *api.Settings) { s.Local &^= api.Echo }

// in adds flags of what comes in.
func in(flags int) func(*api.Settings) { return func(s *api.Settings) { s.In |= flags } }

// local adds flags of the terminal itself.
func local(flags int) func(*api.Settings) { return func(s *api.Settings) { s.Local |= flags } }

// without takes flags of the terminal itself away.
func without(flags int) func(*api.Settings) { return func(s *api.Settings) { s.Local &^= flags } }

// char puts a character at a place.
func char(place, c int) func(*api.Settings) { return func(s *api.Settings) { s.Chars[place] = c } }

// all makes several changes, one after the other.
func all(changes ...func(*api.Settings)) func(*api.Settings) {
	return func(s *api.Settings) {
		for _, change := range changes {
			change(s)
		}
	}
}

// entries tells the input queue: of each entry the byte ("EOF" for an end of a file), and "|" behind it if it ends a line.
func entries(x *Terminal) string {
	var b strings.Builder
	for _, e := range x.in {
		if e.EndOfFile {
			b.WriteString("EOF")
		} else {
			b.WriteByte(e.Byte)
		}
		if e.EndsLine {
			b.WriteByte('|')
		}
	}
	return b.String()
}

// cells tells the cells of the entries, each as a digit.
func cells(x *Terminal) string {
	var b strings.Builder
	for _, e := range x.in {
		b.WriteString(strconv.Itoa(e.Cells))
	}
	return b.String()
}

// drained tells all that is sent.
func drained(t *testing.T, x *Terminal) string {
	t.Helper()
	sent, e := x.Drain(99999)
	if e != api.OK {
		t.Fatalf("P6: Drain = %d", e)
	}
	return sent
}

// came is a case: what comes, what is sent then, and which entries there are.
type came struct {
	why    string
	change func(*api.Settings)
	kind   int
	s      string
	sent   string
	there  string
}

// check lets each case come to a terminal of its own.
func check(t *testing.T, promise string, cases []came) {
	t.Helper()
	for _, c := range cases {
		x := with(t, c.change)
		if e := x.Receive(c.kind, c.s); e != api.OK {
			t.Errorf("%s: %s: Receive(%d, %q) = %d", promise, c.why, c.kind, c.s, e)
		}
		if sent := drained(t, x); sent != c.sent || entries(x) != c.there {
			t.Errorf("%s: %s: of %q there was sent %q, and are the entries %q; want %q, %q", promise, c.why, c.s, sent, entries(x), c.sent, c.there)
		}
	}
}

func TestReceiveOfAKindThatThereIsNot(t *testing.T) {
	x := with(t, in(api.FlowIn))
	x.Receive(api.Good, "ab\x03cd\x16")
	x.Write("out")
	status, queue := x.Status(), entries(x)
	for _, kind := range []int{-1, 3, 4, 256, 257, math.MinInt, math.MaxInt} {
		for _, s := range []string{"", "a", "\x03", "\x13", strings.Repeat("x", 300)} {
			if e := x.Receive(kind, s); e != api.ErrKind {
				t.Errorf("P7: Receive(%d, %q) = %d", kind, s, e)
			}
			if x.Status() != status || entries(x) != queue {
				t.Errorf("P1: Receive(%d, %q) changed it: %+v, %q", kind, s, x.Status(), entries(x))
			}
		}
	}
	if l := x.Signals(); !slices.Equal(l, []int{api.Interrupt}) {
		t.Errorf("P1: the signals are %v", l)
	}
}

func TestReceiveOfNothing(t *testing.T) {
	for _, kind := range []int{api.Good, api.Parity} {
		x := New()
		if e := x.Receive(kind, ""); e != api.OK || x.Status() != (api.Status{}) {
			t.Errorf("P7: Receive(%d, nothing) = %d; %+v", kind, e, x.Status())
		}
	}
}

func TestBreak(t *testing.T) {
	check(t, "P7", []came{
		{"a byte 0", plain, api.Break, "", "^@", "\x00"},
		{"one thing, whatever s says", plain, api.Break, "abc\n", "^@", "\x00"},
		{"marked", in(api.MarkParity), api.Break, "abc", "\xff^@^@", "\xff\x00\x00"},
		{"left out", in(api.IgnoreBreak), api.Break, "a", "", ""},
		{"left out ahead of a signal", in(api.IgnoreBreak | api.BreakSignal | api.MarkParity), api.Break, "a", "", ""},
		{"a signal ahead of a mark", in(api.BreakSignal | api.MarkParity), api.Break, "a", "", ""},
		{"the flags of parity do not count", in(api.IgnoreParity), api.Break, "a", "^@", "\x00"},
		{"without Lines", without(api.Lines), api.Break, "a", "^@", "\x00"},
		{"without Echo", silent, api.Break, "a", "", "\x00"},
		{"a byte 0 is no character", all(char(api.Erase, 0), char(api.Intr, 0)), api.Break, "a", "^@", "\x00"},
	})
}

func TestBreakIsASignal(t *testing.T) {
	for _, c := range []struct {
		why    string
		change func(*api.Settings)
		there  string
		sent   string
		quoted bool
	}{
		{"both queues are emptied", in(api.BreakSignal), "", "", false},
		{"also without Signals", all(in(api.BreakSignal), without(api.Signals)), "", "", false},
		{"nothing is with NoFlush", all(in(api.BreakSignal), local(api.NoFlush)), "a\n|b", "a\r\nb^\b", true},
	} {
		x := with(t, c.change)
		x.Receive(api.Good, "a\nb\x16")
		x.Receive(api.Break, "xyz")
		if entries(x) != c.there || x.Status().Quoted != c.quoted || x.Status().Out != len(c.sent) {
			t.Errorf("P7: a break: %s: %q, %+v", c.why, entries(x), x.Status())
		}
		if sent := drained(t, x); sent != c.sent {
			t.Errorf("P7: a break: %s: sent %q, want %q", c.why, sent, c.sent)
		}
		if l := x.Signals(); !slices.Equal(l, []int{api.Interrupt}) {
			t.Errorf("P7: a break: %s: the signals are %v", c.why, l)
		}
	}
	x := with(t, in(api.BreakSignal|api.IgnoreBreak))
	x.Receive(api.Break, "")
	if l := x.Signals(); len(l) != 0 {
		t.Errorf("P7: a break that is left out: the signals are %v", l)
	}
}

func TestParity(t *testing.T) {
	check(t, "P7", []came{
		{"a byte 0 for each", plain, api.Parity, "ab", "^@^@", "\x00\x00"},
		{"marked", in(api.MarkParity), api.Parity, "ab", "\xff^@a\xff^@b", "\xff\x00a\xff\x00b"},
		{"left out", in(api.IgnoreParity), api.Parity, "ab", "", ""},
		{"left out ahead of a mark", in(api.IgnoreParity | api.MarkParity), api.Parity, "ab", "", ""},
		{"the flags of a break do not count", in(api.IgnoreBreak | api.BreakSignal), api.Parity, "a", "^@", "\x00"},
		{"no character means anything", in(api.MarkParity), api.Parity, "\x03\x7f\x13\x04", "\xff^@^C\xff^@^?\xff^@^S\xff^@^D", "\xff\x00\x03\xff\x00\x7f\xff\x00\x13\xff\x00\x04"},
		{"NL ends no line, CR is not NL", in(api.MarkParity), api.Parity, "\n\r", "\xff^@\r\n\xff^@^M", "\xff\x00\n\xff\x00\r"},
		{"the byte 255 is not doubled", in(api.MarkParity), api.Parity, "\xff", "\xff^@\xff", "\xff\x00\xff"},
		{"the byte is not stripped nor small", in(api.MarkParity | api.Strip | api.Lower), api.Parity, "\xc1A", "\xff^@\xc1\xff^@A", "\xff\x00\xc1\xff\x00A"},
		{"without Lines", all(in(api.MarkParity), without(api.Lines)), api.Parity, "\n", "\xff^@\r\n", "\xff\x00\n"},
	})
}

func TestWrongBytesAndBreaksLeaveQuotingAndStopping(t *testing.T) {
	x := with(t, in(api.AnyStarts|api.MarkParity))
	x.Receive(api.Good, "\x13")
	x.Receive(api.Parity, "a")
	x.Receive(api.Break, "")
	x.Receive(api.Good, "\xff")
	if !x.Status().Stopped {
		t.Errorf("P7: bytes that are not looked at let it go on")
	}
	x.Receive(api.Good, "b\x16")
	x.Receive(api.Parity, "a")
	x.Receive(api.Break, "")
	x.Receive(api.Good, "\xff")
	if !x.Status().Quoted {
		t.Errorf("P7: bytes that are not looked at took the quoting")
	}
}

func TestGoodBytesBeforeTheyAreLookedAt(t *testing.T) {
	check(t, "P7", []came{
		{"as they are", plain, api.Good, "aZ\xe1\xff", "aZ\xe1\xff", "aZ\xe1\xff"},
		{"seven bits", in(api.Strip), api.Good, "\xe1z\x80", "az^@", "az\x00"},
		{"seven bits are a character", in(api.Strip), api.Good, "ab\xff", "ab\b \b", "a"},
		{"seven bits, so no mark is doubled", all(in(api.Strip|api.MarkParity), char(api.Erase, 0)), api.Good, "\xff", "^?", "\x7f"},
		{"255 is doubled", in(api.MarkParity), api.Good, "a\xff\xfe", "a\xff\xff\xfe", "a\xff\xff\xfe"},
		{"255 is doubled, whatever character it is", all(in(api.MarkParity), char(api.Intr, 255)), api.Good, "\xff", "\xff\xff", "\xff\xff"},
		{"255 as a character", char(api.Erase, 255), api.Good, "ab\xff", "ab\b \b", "a"},
		{"small letters", in(api.Lower), api.Good, "AMZ@[\xc1\xda", "amz@[\xc1\xda", "amz@[\xc1\xda"},
		{"small letters of seven bits", in(api.Lower | api.Strip), api.Good, "\xc1", "a", "a"},
		{"small letters only with Extended", all(in(api.Lower), without(api.Extended)), api.Good, "AZ", "AZ", "AZ"},
		{"no small letters without Lower", plain, api.Good, "AZ", "AZ", "AZ"},
		{"small letters are characters", all(in(api.Lower), char(api.Erase, 'x')), api.Good, "abX", "ab\b \b", "a"},
		{"great ones are not any more", all(in(api.Lower), char(api.Erase, 'X')), api.Good, "abX", "abx", "abx"},
		{"quoted, they are small too", in(api.Lower), api.Good, "\x16A", "^\ba", "a"},
		{"quoted, they have seven bits too", in(api.Strip), api.Good, "\x16\x83", "^\b^C", "\x03"},
	})
}

func TestQuoted(t *testing.T) {
	check(t, "P7", []came{
		{"a signal", plain, api.Good, "\x16\x03\x16\x1c\x16\x1a", "^\b^C^\b^\\^\b^Z", "\x03\x1c\x1a"},
		{"Stop and Start", plain, api.Good, "\x16\x13\x16\x11", "^\b^S^\b^Q", "\x13\x11"},
		{"what edits", plain, api.Good, "\x16\x7f\x16\x15\x16\x17\x16\x16\x16\x12", "^\b^?^\b^U^\b^W^\b^V^\b^R", "\x7f\x15\x17\x16\x12"},
		{"an end of a file", plain, api.Good, "\x16\x04", "^\b^D", "\x04"},
		{"NL ends no line", plain, api.Good, "\x16\n", "^\b\r\n", "\n"},
		{"Eol ends no line", char(api.Eol, ';'), api.Good, "\x16;", "^\b;", ";"},
		{"CR stays", plain, api.Good, "\x16\r", "^\b^M", "\r"},
		{"CR is not left out", in(api.IgnoreCR), api.Good, "\x16\r", "^\b^M", "\r"},
		{"NL is not CR", in(api.NLtoCR), api.Good, "\x16\n", "^\b\r\n", "\n"},
		{"only one byte", plain, api.Good, "\x16\x04\x04", "^\b^D", "\x04EOF|"},
		{"a plain byte", plain, api.Good, "\x16ab", "^\bab", "ab"},
	})
	x := with(t, in(api.AnyStarts))
	x.Receive(api.Good, "\x16")
	x.stop(0)
	x.Receive(api.Good, "a")
	if !x.Status().Stopped {
		t.Errorf("P7: a byte that is quoted lets it go on")
	}
}

func TestStopAndStart(t *testing.T) {
	for _, c := range []struct {
		why     string
		change  func(*api.Settings)
		s       string
		stopped bool
		there   string
		out     string
	}{
		{"Stop", plain, "a\x13", true, "a", "a"},
		{"twice", plain, "a\x13\x13", true, "a", "a"},
		{"Start", plain, "a\x13b\x11c", false, "abc", "abc"},
		{"Start alone", plain, "\x11", false, "", ""},
		{"other bytes do not start", plain, "\x13ab\n\x03", true, "", "^C"},
		{"not without FlowOut", func(s *api.Settings) { s.In &^= api.FlowOut }, "\x13\x11", false, "\x13\x11", "^S^Q"},
		{"AnyStarts", in(api.AnyStarts), "\x13a", false, "a", "a"},
		{"AnyStarts, but not by Stop", in(api.AnyStarts), "\x13\x13", true, "", ""},
		{"AnyStarts, and Stop again", in(api.AnyStarts), "\x13a\x13", true, "a", "a"},
		{"AnyStarts by a signal", in(api.AnyStarts), "\x13\x03", false, "", "^C"},
		{"AnyStarts by Erase", in(api.AnyStarts), "\x13\x7f", false, "", ""},
		{"AnyStarts by a CR that is left out", in(api.AnyStarts | api.IgnoreCR), "\x13\r", false, "", ""},
		{"AnyStarts without FlowOut", func(s *api.Settings) { s.In = api.AnyStarts }, "\x13", false, "\x13", "^S"},
		{"other characters", all(char(api.Stop, 'p'), char(api.Start, 'q')), "ap\x13", true, "a\x13", "a^S"},
		{"other characters, Start", all(char(api.Stop, 'p'), char(api.Start, 'q')), "apq", false, "a", "a"},
		{"no Stop", char(api.Stop, 0), "\x13\x00", false, "\x13\x00", "^S^@"},
		{"no Start", char(api.Start, 0), "\x13\x00\x11", true, "\x00\x11", "^@^Q"},
		{"one for both: Start is first", char(api.Stop, 17), "\x11", false, "", ""},
		{"ahead of signals", all(char(api.Intr, 19), char(api.Quit, 17)), "\x13", true, "", ""},
		{"ahead of what edits", all(char(api.Erase, 19)), "a\x13", true, "a", "a"},
		{"without Lines", without(api.Lines), "a\x13b", true, "ab", "ab"},
	} {
		x := with(t, c.change)
		x.Receive(api.Good, c.s)
		if x.Status().Stopped != c.stopped || entries(x) != c.there {
			t.Errorf("P7: %s: %q: %+v, %q", c.why, c.s, x.Status(), entries(x))
		}
		sent := drained(t, x)
		if c.stopped && sent != "" {
			t.Errorf("P6: %s: %q: stopped, it sent %q", c.why, c.s, sent)
		}
		x.goOn(0)
		if sent += drained(t, x); sent != c.out {
			t.Errorf("P7: %s: %q: sent %q, want %q", c.why, c.s, sent, c.out)
		}
	}
	y := with(t, all(char(api.Intr, 19), char(api.Quit, 17)))
	y.Receive(api.Good, "\x13\x11")
	if l := y.Signals(); len(l) != 0 {
		t.Errorf("P7: Stop and Start that are signals too: %v", l)
	}
	// AnyStarts lets it go on that was stopped while the flag was not set, too.
	x := New()
	x.Receive(api.Good, "\x13")
	reset(t, x, in(api.AnyStarts))
	x.Receive(api.Good, "z")
	if x.Status().Stopped {
		t.Errorf("P7: AnyStarts: still stopped")
	}
	x.Receive(api.Good, "\x13")
	reset(t, x, func(s *api.Settings) { s.In &^= api.FlowOut })
	x.Receive(api.Good, "z\x11")
	if !x.Status().Stopped {
		t.Errorf("P7: AnyStarts without FlowOut: not stopped any more")
	}
}

func TestSignalCharacters(t *testing.T) {
	for _, c := range []struct {
		why    string
		change func(*api.Settings)
		s      string
		want   []int
		sent   string
		there  string
	}{
		{"Intr", plain, "\x03", []int{api.Interrupt}, "^C", ""},
		{"Quit", plain, "\x1c", []int{api.Quits}, "^\\", ""},
		{"Susp", plain, "\x1a", []int{api.Suspend}, "^Z", ""},
		{"all, in order", plain, "\x1a\x03\x1c\x03", []int{3, 1, 2, 1}, "^C", ""},
		{"both queues are emptied", plain, "ab\ncd\x03ef", []int{1}, "^Cef", "ef"},
		{"not with NoFlush", local(api.NoFlush), "ab\ncd\x03ef", []int{1}, "ab\r\ncd^Cef", "ab\n|cdef"},
		{"not without Signals", without(api.Signals), "\x03\x1c\x1a", nil, "^C^\\^Z", "\x03\x1c\x1a"},
		{"without Lines", without(api.Lines), "a\x03", []int{1}, "^C", ""},
		{"without Echo", silent, "a\x03", []int{1}, "", ""},
		{"without EchoControl", without(api.EchoControl), "\x03", []int{1}, "\x03", ""},
		{"a printed one", char(api.Intr, 'i'), "xi\x03", []int{1}, "i^C", "\x03"},
		{"none", all(char(api.Intr, 0), char(api.Quit, 0), char(api.Susp, 0)), "\x00\x03", nil, "^@^C", "\x00\x03"},
		{"one for all: the first", all(char(api.Quit, 3), char(api.Susp, 3)), "\x03", []int{1}, "^C", ""},
		{"one for two: the first", char(api.Susp, 28), "\x1c", []int{2}, "^\\", ""},
		{"ahead of CR", char(api.Intr, '\r'), "\r", []int{1}, "^M", ""},
		{"CR that is NL later", char(api.Intr, '\n'), "\r", nil, "\r\n", "\n|"},
		{"NL", char(api.Intr, '\n'), "a\n", []int{1}, "\r\n", ""},
		{"NL with EchoNL alone", all(char(api.Intr, '\n'), silent, local(api.EchoNL)), "a\n", []int{1}, "\r\n", ""},
		{"ahead of what edits", char(api.Intr, 127), "ab\x7f", []int{1}, "^?", ""},
	} {
		x := with(t, c.change)
		x.Receive(api.Good, c.s)
		if l := x.Signals(); !slices.Equal(l, c.want) {
			t.Errorf("P7: %s: the signals of %q are %v, want %v", c.why, c.s, l, c.want)
		}
		if sent := drained(t, x); sent != c.sent || entries(x) != c.there {
			t.Errorf("P7: %s: of %q there was sent %q, and are the entries %q; want %q, %q", c.why, c.s, sent, entries(x), c.sent, c.there)
		}
	}
}

func TestASignalLeavesTheRest(t *testing.T) {
	x := with(t, in(api.FlowIn))
	x.Write("abc")
	x.out.Urge('u')
	x.Receive(api.Good, "\x13\x03")
	if s := x.Status(); s != (api.Status{Out: 2, Column: 5, Stopped: true}) {
		t.Errorf("P7: behind a signal: %+v", s)
	}
	if sent := drained(t, x); sent != "u" {
		t.Errorf("P7: behind a signal there was sent %q while stopped", sent)
	}
}

func TestCRAndNL(t *testing.T) {
	noCRtoNL := func(s *api.Settings) { s.In &^= api.CRtoNL }
	check(t, "P7", []came{
		{"CR is NL", plain, api.Good, "a\r", "a\r\n", "a\n|"},
		{"CR stays", noCRtoNL, api.Good, "a\r", "a^M", "a\r"},
		{"CR is left out", in(api.IgnoreCR), api.Good, "a\rb", "ab", "ab"},
		{"CR is left out, and is not NL", all(noCRtoNL, in(api.IgnoreCR)), api.Good, "a\rb", "ab", "ab"},
		{"NL is CR", in(api.NLtoCR), api.Good, "a\n", "a^M", "a\r"},
		{"they are changed about", in(api.NLtoCR), api.Good, "\n\r", "^M\r\n", "\r\n|"},
		{"NL is CR, which is not left out", in(api.NLtoCR | api.IgnoreCR), api.Good, "\n\r", "^M", "\r"},
		{"without Lines", without(api.Lines), api.Good, "\r\n", "\r\n\r\n", "\n\n"},
		{"NL is a character by being made of CR", char(api.Erase, '\n'), api.Good, "ab\r", "ab\b \b", "a"},
		{"CR is a character by being made of NL", all(in(api.NLtoCR), char(api.Kill, '\r')), api.Good, "ab\n", "ab\b \b\b \b", ""},
		{"CR is no character any more", char(api.Erase, '\r'), api.Good, "a\r", "a\r\n", "a\n|"},
	})
}

func TestEndsOfLines(t *testing.T) {
	check(t, "P7", []came{
		{"NL", plain, api.Good, "a\nb", "a\r\nb", "a\n|b"},
		{"NL alone", plain, api.Good, "\n\n", "\r\n\r\n", "\n|\n|"},
		{"Eol", char(api.Eol, ';'), api.Good, "a;b", "a;b", "a;|b"},
		{"Eol, control", char(api.Eol, 1), api.Good, "\x01", "^A", "\x01|"},
		{"Eol that is CR", all(char(api.Eol, '\r'), func(s *api.Settings) { s.In = 0 }), api.Good, "\r\n", "^M\r\n", "\r|\n|"},
		{"no Eol", plain, api.Good, "\x00", "^@", "\x00"},
		{"Eof", plain, api.Good, "a\x04b", "ab", "aEOF|b"},
		{"Eof alone", plain, api.Good, "\x04\x04", "", "EOF|EOF|"},
		{"Eof of another byte", char(api.Eof, 'e'), api.Good, "e\x04", "^D", "EOF|\x04"},
		{"no Eof", char(api.Eof, 0), api.Good, "\x00\x04", "^@^D", "\x00\x04"},
		{"Eof is ahead of NL", char(api.Eof, '\n'), api.Good, "a\n", "a", "aEOF|"},
		{"Eof is ahead of Eol", all(char(api.Eof, ';'), char(api.Eol, ';')), api.Good, "a;", "a", "aEOF|"},
		{"without Lines none ends", all(without(api.Lines), char(api.Eol, ';')), api.Good, "\n;\x04", "\r\n;^D", "\n;\x04"},
		{"EchoNL", all(silent, local(api.EchoNL), char(api.Eol, ';')), api.Good, "a\nb;\r", "\r\n\r\n", "a\n|b;|\n|"},
		{"EchoNL of an NL that ends no line", all(silent, local(api.EchoNL)), api.Good, "\x16\n", "\r\n", "\n"},
		{"EchoNL not without Lines", all(without(api.Echo|api.Lines), local(api.EchoNL)), api.Good, "\n", "", "\n"},
		{"neither Echo nor EchoNL", silent, api.Good, "a\n", "", "a\n|"},
	})
}

// The rows in their order: each of two that a byte fits, and the first one takes it.
func TestOrderOfTheLine(t *testing.T) {
	both := func(first, second int) func(*api.Settings) {
		return all(char(first, 'k'), char(second, 'k'))
	}
	check(t, "P7", []came{
		{"Erase, Kill", both(api.Erase, api.Kill), api.Good, "abk", "ab\b \b", "a"},
		{"Kill, Werase", both(api.Kill, api.Werase), api.Good, "a bk", "a b\b \b\b \b\b \b", ""},
		{"Werase, Next", both(api.Werase, api.Next), api.Good, "a bk", "a b\b \b", "a "},
		{"Next, Reprint", both(api.Next, api.Reprint), api.Good, "ak", "a^\b", "a"},
		{"Reprint, Eof", both(api.Reprint, api.Eof), api.Good, "ak", "ak\r\na", "a"},
		{"Erase, NL", char(api.Erase, '\n'), api.Good, "ab\n", "ab\b \b", "a"},
		{"Reprint, NL", char(api.Reprint, '\n'), api.Good, "a\n", "a\r\n\r\na", "a"},
		{"Eof, Eol", both(api.Eof, api.Eol), api.Good, "ak", "a", "aEOF|"},
		{"without Echo Reprint is laid down", silent, api.Good, "a\x12", "", "a\x12"},
		{"without Echo Reprint lets the next one have it", all(silent, both(api.Reprint, api.Eof)), api.Good, "ak", "", "aEOF|"},
		{"without Extended there is no Werase, Next, Reprint", without(api.Extended), api.Good, "a\x17\x16\x12", "a^W^V^R", "a\x17\x16\x12"},
		{"without Lines there is none", without(api.Lines), api.Good, "a\x7f\x15\x17\x16\x12\x04", "a^?^U^W^V^R^D", "a\x7f\x15\x17\x16\x12\x04"},
		{"none is a byte 0", func(s *api.Settings) { s.Chars = [api.Places]int{} }, api.Good, "a\x00", "a^@", "a\x00"},
		{"Min and Time are no characters", all(char(api.Min, 'm'), char(api.Time, 'i')), api.Good, "mi", "mi", "mi"},
	})
}

func TestEcho(t *testing.T) {
	for b := range 256 {
		c := byte(b)
		control := b < 32 || b == 127
		for _, local := range []int{0, api.Echo, api.Echo | api.EchoControl, api.EchoControl, api.EchoNL, api.Echo | api.EchoNL} {
			x := with(t, func(s *api.Settings) { s.In, s.Out, s.Local, s.Chars = 0, 0, local, [api.Places]int{} })
			want := ""
			switch {
			case local&api.Echo == 0:
			case local&api.EchoControl != 0 && control && b != 10 && b != 9:
				want = "^" + string([]byte{c ^ 64})
			default:
				want = string([]byte{c})
			}
			x.Receive(api.Good, string([]byte{c}))
			if sent := drained(t, x); sent != want || entries(x) != string([]byte{c}) {
				t.Errorf("P7: Local %d: the echo of %d is %q, want %q; entries %q", local, b, sent, want, entries(x))
			}
		}
	}
}

func TestEchoIsPutOutByTheFlags(t *testing.T) {
	for _, c := range []struct{ out, local int }{
		{api.Process | api.Upper | api.Tabs, api.Lines | api.Echo | api.EchoControl},
		{api.Process | api.Upper | api.Tabs, api.Echo | api.EchoControl},
	} {
		x := with(t, func(s *api.Settings) { s.Out, s.Local = c.out, c.local })
		x.Receive(api.Good, "ab\t\x01")
		if sent := drained(t, x); sent != "AB      ^A" || entries(x) != "ab\t\x01" || cells(x) != "1162" {
			t.Errorf("P7: sent %q, entries %q, cells %s", sent, entries(x), cells(x))
		}
	}
}

func TestCells(t *testing.T) {
	for _, c := range []struct {
		why    string
		change func(*api.Settings)
		s      string
		want   string
	}{
		{"printed, control", plain, "a\x01\x16\x7f\xe1", "1221"},
		{"a TAB by where it stands", plain, "\tabc\t1234567\t8\t", "8111511111111" + "17"},
		{"a TAB as blanks", func(s *api.Settings) { s.Out |= api.Tabs }, "a\t12345678\t", "17111111118"},
		{"NL that ends a line", plain, "a\nb", "101"},
		{"NL that is quoted, at column 0 and behind it", plain, "\x16\na\x16\nb", "0101"},
		{"NL without Process", func(s *api.Settings) { s.Out = 0 }, "a\x16\nb", "101"},
		{"an end of a file", plain, "a\x04b", "101"},
		{"without EchoControl", without(api.EchoControl), "\x01a\x1b", "010"},
		{"BS and CR that go back", all(without(api.EchoControl), func(s *api.Settings) { s.In = 0 }), "ab\b\rc", "11001"},
		{"without Echo", silent, "a\x01\t", "000"},
		{"EchoNL", all(silent, local(api.EchoNL)), "a\x16\n", "00"},
	} {
		x := with(t, c.change)
		x.Receive(api.Good, c.s)
		if cells(x) != c.want {
			t.Errorf("P7: %s: the cells of %q are %s, want %s", c.why, c.s, cells(x), c.want)
		}
	}
}

func TestEchoWithoutRoom(t *testing.T) {
	for _, c := range []struct {
		why     string
		waiting int
		s       string
		out     int
		cells   string
	}{
		{"two where there is room for one", 255, "\x01a", 256, "01"},
		{"two where there is room for two", 254, "\x01a", 256, "20"},
		{"none", 256, "a\x01\tb", 256, "0000"},
		{"CR and NL where there is room for one", 255, "\x16\nab", 256, "010"},
		{"what is put out by Next", 255, "\x16a", 256, "1"},
	} {
		x := New()
		x.Write(strings.Repeat("w", c.waiting))
		x.Receive(api.Good, c.s)
		if x.Status().Out != c.out || cells(x) != c.cells {
			t.Errorf("P7: %s: %q: %+v, cells %s, want %d, %s", c.why, c.s, x.Status(), cells(x), c.out, c.cells)
		}
	}
}

func TestFullWithLines(t *testing.T) {
	x := New()
	for i := range 300 {
		x.Receive(api.Good, "x")
		sent, want := drained(t, x), "x"
		if i >= 255 {
			want = ""
		}
		if sent != want || len(x.in) != min(i+1, 255) {
			t.Fatalf("P7: byte %d: sent %q, %d entries", i+1, sent, len(x.in))
		}
	}
	x.Receive(api.Good, "\x16\n")
	if sent := drained(t, x); sent != "^\b" || len(x.in) != 255 {
		t.Errorf("P7: an NL that ends no line: sent %q, %d entries", sent, len(x.in))
	}
	x.Receive(api.Good, "\n")
	if sent := drained(t, x); sent != "\r\n" || len(x.in) != 256 {
		t.Errorf("P7: the last one, that ends a line: sent %q, %d entries", sent, len(x.in))
	}
	x.Receive(api.Good, "\n\x04a\r")
	if sent := drained(t, x); sent != "" || len(x.in) != 256 {
		t.Errorf("P7: full: sent %q, %d entries", sent, len(x.in))
	}
	if want := strings.Repeat("x", 255) + "\n|"; entries(x) != want {
		t.Errorf("P7: the entries are %q", entries(x))
	}
	y := New()
	y.Receive(api.Good, strings.Repeat("x", 255)+"\x04")
	if !strings.HasSuffix(entries(y), "xEOF|") || len(y.in) != 256 {
		t.Errorf("P7: an end of a file is not the last one: %d entries", len(y.in))
	}
	// Of lines there may be as many as there is room for, the last one too.
	z := with(t, silent)
	z.Receive(api.Good, strings.Repeat("\n", 300))
	if len(z.in) != 256 {
		t.Errorf("P7: %d lines", len(z.in))
	}
}

func TestFullWithoutLines(t *testing.T) {
	x := with(t, without(api.Lines))
	for i := range 300 {
		x.Receive(api.Good, "\n")
		if len(x.in) != min(i+1, 256) || (drained(t, x) == "") != (i >= 256) {
			t.Fatalf("P7: byte %d: %d entries", i+1, len(x.in))
		}
	}
}

func TestTheFullQueueStaysWhenLinesComes(t *testing.T) {
	x := with(t, without(api.Lines|api.Echo))
	x.Receive(api.Good, strings.Repeat("x", 256))
	reset(t, x, local(api.Lines))
	x.Receive(api.Good, "y\n")
	if entries(x) != strings.Repeat("x", 256) {
		t.Errorf("P7: %d entries", len(x.in))
	}
	x.Receive(api.Good, "\x7fy\n\n")
	if entries(x) != strings.Repeat("x", 255)+"\n|" {
		t.Errorf("P7: %d entries", len(x.in))
	}
}

func TestBell(t *testing.T) {
	for _, c := range []struct {
		why    string
		change func(*api.Settings)
		kind   int
		s      string
		sent   string
	}{
		{"each that is lost", in(api.Bell), api.Good, "ab", "\a\a"},
		{"not without Bell", plain, api.Good, "ab", ""},
		{"without Echo too", all(in(api.Bell), silent), api.Good, "a", "\a"},
		{"each of three", in(api.Bell | api.MarkParity), api.Parity, "a", "\a\a\a"},
		{"each of two", in(api.Bell | api.MarkParity), api.Good, "\xff", "\a\a"},
		{"a break", in(api.Bell), api.Break, "", "\a"},
		{"what edits is not lost", in(api.Bell), api.Good, "\x7fa", "\b \ba"},
	} {
		x := with(t, c.change)
		x.Receive(api.Good, strings.Repeat("x", 255))
		drained(t, x)
		x.Receive(c.kind, c.s)
		if sent := drained(t, x); sent != c.sent || len(x.in) != 255 {
			t.Errorf("P7: Bell: %s: sent %q, want %q; %d entries", c.why, sent, c.sent, len(x.in))
		}
	}
	x := with(t, in(api.Bell))
	x.Receive(api.Good, strings.Repeat("x", 255)+"\n")
	drained(t, x)
	x.Receive(api.Good, "\x04\n")
	if sent := drained(t, x); sent != "\a\a" {
		t.Errorf("P7: Bell: ends of lines that are lost: sent %q", sent)
	}
}

func TestLaidDownOneAfterTheOther(t *testing.T) {
	for _, c := range []struct {
		there int
		want  string
	}{{252, "\xff\x00p"}, {253, "\xff\x00"}, {254, "\xff"}, {255, ""}} {
		x := with(t, all(silent, in(api.MarkParity)))
		x.Receive(api.Good, strings.Repeat("x", c.there))
		x.Receive(api.Parity, "p")
		if entries(x)[c.there:] != c.want {
			t.Errorf("P7: behind %d entries there were laid down %q, want %q", c.there, entries(x)[c.there:], c.want)
		}
	}
	// Three bytes where there is room for the echo of two: the first and the last.
	x := with(t, in(api.MarkParity))
	x.Write(strings.Repeat("w", 254))
	x.Receive(api.Parity, "p")
	if entries(x) != "\xff\x00p" || cells(x) != "101" {
		t.Errorf("P7: entries %q, cells %s", entries(x), cells(x))
	}
}

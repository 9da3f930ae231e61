package clack

import (
	"strings"
	"testing"

	"clack/api"
)

// rub is what rubs out n cells.
func rub(n int) string { return strings.Repeat("\b \b", n) }

func TestErase(t *testing.T) {
	check(t, "P8", []came{
		{"the last one", plain, api.Good, "ab\x7f", "ab" + rub(1), "a"},
		{"all, and no more", plain, api.Good, "ab\x7f\x7f\x7f", "ab" + rub(2), ""},
		{"nothing", plain, api.Good, "\x7f", "", ""},
		{"a control byte", plain, api.Good, "a\x01\x7f", "a^A" + rub(2), "a"},
		{"a DEL", plain, api.Good, "\x16\x7f\x7f", "^\b^?" + rub(2), ""},
		{"a byte above 127", plain, api.Good, "\xe1\x7f", "\xe1" + rub(1), ""},
		{"a blank", plain, api.Good, "a \x7f", "a " + rub(1), "a"},
		{"a TAB", plain, api.Good, "ab\t\x7f", "ab\t\b\b\b\b\b\b", "ab"},
		{"a TAB as blanks", func(s *api.Settings) { s.Out |= api.Tabs }, api.Good, "a\t\x7f", "a       \b\b\b\b\b\b\b", "a"},
		{"a TAB that is quoted", plain, api.Good, "ab\x16\t\x7f", "ab^\b\t\b\b\b\b\b\b", "ab"},
		{"an NL that is quoted has no cells", plain, api.Good, "a\x16\n\x7f", "a^\b\r\n", "a"},
		{"not beyond an NL", plain, api.Good, "a\n\x7fb\x7f\x7f", "a\r\nb" + rub(1), "a\n|"},
		{"not beyond an Eol", char(api.Eol, ';'), api.Good, "a;\x7f", "a;", "a;|"},
		{"not beyond an end of a file", plain, api.Good, "a\x04\x7f", "a", "aEOF|"},
		{"without EchoErase: the byte", without(api.EchoErase), api.Good, "ab\x7f\x7f\x7f", "ab^?^?", ""},
		{"without EchoErase: the byte that came", all(without(api.EchoErase), char(api.Erase, '#')), api.Good, "ab#", "ab#", "a"},
		{"without EchoErase and EchoControl", without(api.EchoErase | api.EchoControl), api.Good, "ab\x7f", "ab\x7f", "a"},
		{"without Echo", silent, api.Good, "ab\x7f", "", "a"},
		{"without Echo and EchoErase", without(api.Echo | api.EchoErase), api.Good, "ab\x7f", "", "a"},
		{"the flags of Kill do not count", without(api.EchoKill | api.EchoKillErase), api.Good, "ab\x7f", "ab" + rub(1), "a"},
		{"nor do they without EchoErase", without(api.EchoErase | api.EchoKillErase), api.Good, "ab\x7f", "ab^?", "a"},
		{"Erase as NL, EchoNL alone", all(without(api.Echo|api.EchoErase), local(api.EchoNL), char(api.Erase, '\n')), api.Good, "ab\n", "", "a"},
		{"one of no cells counts as rubbed out", all(without(api.EchoErase|api.EchoControl), char(api.Erase, '#')), api.Good, "\x01#", "\x01#", ""},
		{"and shows nothing", without(api.EchoControl), api.Good, "\x01\x7f", "\x01", ""},
	})
}

func TestEraseWord(t *testing.T) {
	check(t, "P8", []came{
		{"the only one", plain, api.Good, "ab\x17", "ab" + rub(2), ""},
		{"the last one", plain, api.Good, "ab cd\x17", "ab cd" + rub(2), "ab "},
		{"with the blanks behind it", plain, api.Good, "ab cd  \x17", "ab cd  " + rub(4), "ab "},
		{"with a TAB behind it", plain, api.Good, "ab\t\x17", "ab\t\b\b\b\b\b\b" + rub(2), ""},
		{"with blanks and TABs", plain, api.Good, "a b \t \x17", "a b \t " + rub(1) + "\b\b\b\b" + rub(2), "a "},
		{"a TAB ahead of it stays", plain, api.Good, "\tb\x17", "\tb" + rub(1), "\t"},
		{"only blanks", plain, api.Good, "  \x17", "  " + rub(2), ""},
		{"one after the other", plain, api.Good, "ab cd\x17\x17\x17", "ab cd" + rub(2) + rub(3), ""},
		{"other signs are of the word", plain, api.Good, "a.b-c\x17", "a.b-c" + rub(5), ""},
		{"control bytes too, and NL that ends no line", plain, api.Good, "a\x01\x16\nb\x17", "a^A^\b\r\nb" + rub(1) + rub(2) + rub(1), ""},
		{"nothing", plain, api.Good, "\x17", "", ""},
		{"not beyond a line's end", plain, api.Good, "ab\ncd\x17\x17", "ab\r\ncd" + rub(2), "ab\n|"},
		{"without EchoErase: the byte, once", without(api.EchoErase), api.Good, "ab cd\x17", "ab cd^W", "ab "},
		{"without EchoErase: nothing", without(api.EchoErase), api.Good, "\x17", "", ""},
		{"without Echo", silent, api.Good, "ab cd\x17", "", "ab "},
		{"not without Extended", without(api.Extended), api.Good, "ab\x17", "ab^W", "ab\x17"},
	})
}

func TestKill(t *testing.T) {
	check(t, "P8", []came{
		{"all of them, the last one first", plain, api.Good, "a\x02\tc\x15", "a^B\tc" + rub(1) + "\b\b\b\b\b" + rub(3), ""},
		{"not beyond a line's end", plain, api.Good, "ab\ncd\x15\x15", "ab\r\ncd" + rub(2), "ab\n|"},
		{"nothing", plain, api.Good, "\x15", "", ""},
		{"without EchoErase", without(api.EchoErase), api.Good, "ab\x15", "ab^U\r\n", ""},
		{"without EchoKillErase", without(api.EchoKillErase), api.Good, "ab\x15", "ab^U\r\n", ""},
		{"without both", without(api.EchoErase | api.EchoKillErase), api.Good, "ab\x15", "ab^U\r\n", ""},
		{"nothing, in any case", without(api.EchoKillErase), api.Good, "\x15", "^U\r\n", ""},
		{"without EchoKill", without(api.EchoKillErase | api.EchoKill), api.Good, "ab\x15\x15", "ab^U^U", ""},
		{"EchoKill does not count with EchoKillErase", without(api.EchoKill), api.Good, "ab\x15", "ab" + rub(2), ""},
		{"another byte", all(without(api.EchoErase), char(api.Kill, '@')), api.Good, "ab@", "ab@\r\n", ""},
		{"without Echo", silent, api.Good, "ab\x15", "", ""},
		{"without Echo and EchoErase", without(api.Echo | api.EchoErase), api.Good, "ab\x15", "", ""},
		{"also without Extended", without(api.Extended), api.Good, "ab\x15", "ab" + rub(2), ""},
		{"as NL, EchoNL alone", all(without(api.Echo|api.EchoErase), local(api.EchoNL), char(api.Kill, '\n')), api.Good, "ab\n", "", ""},
	})
}

func TestNothingIsSeenOfItWithoutEcho(t *testing.T) {
	for _, key := range []string{"\x7f", "\x17", "\x15"} {
		x := New()
		x.Receive(api.Good, "ab")
		drained(t, x)
		reset(t, x, silent)
		x.Receive(api.Good, key)
		if sent := drained(t, x); sent != "" || len(x.in) >= 2 {
			t.Errorf("P8: Echo is not set any more: of %q there was sent %q, entries %q", key, sent, entries(x))
		}
	}
}

func TestRubbedOutIsNoEntry(t *testing.T) {
	x := New()
	x.Receive(api.Good, strings.Repeat("x", 255))
	drained(t, x)
	x.Receive(api.Good, "\x7f\x7fab")
	if sent := drained(t, x); sent != rub(2)+"ab" || entries(x) != strings.Repeat("x", 253)+"ab" {
		t.Errorf("P8: sent %q, entries %q", sent, entries(x))
	}
	x.Receive(api.Good, "\x15")
	if x.Status().In != 0 {
		t.Errorf("P8: %+v", x.Status())
	}
}

func TestRubbingOutWithoutRoom(t *testing.T) {
	for _, c := range []struct {
		why  string
		room int
		s    string
		sent string
	}{
		{"room for it", 3, "a\x7f", rub(1)},
		{"none for all three", 2, "a\x7f", ""},
		{"a control byte: room for both cells", 6, "\x01\x7f", rub(2)},
		{"a control byte: all or none", 5, "\x01\x7f", ""},
		{"a TAB: room for all cells", 8, "\t\x7f", "\b\b\b\b\b\b\b\b"},
		{"a TAB: all or none", 7, "\t\x7f", ""},
		{"each entry by itself", 5, "a\x01\x15", rub(1)},
		{"each entry by itself, of a word", 7, "ab\x01\x17", rub(2)},
		{"no room for Next", 1, "\x16", ""},
		{"room for Next", 2, "\x16", "^\b"},
	} {
		x := New()
		last := len(c.s) - 1
		x.Receive(api.Good, c.s[:last])
		drained(t, x)
		for x.Status().Out < api.MaxOut-c.room {
			x.Write("\x00")
		}
		x.Receive(api.Good, c.s[last:])
		if sent := drained(t, x); strings.TrimLeft(sent, "\x00") != c.sent || x.Status().In != 0 {
			t.Errorf("P8: %s: of %q there was sent %q, want %q; %+v", c.why, c.s, sent, c.sent, x.Status())
		}
	}
}

func TestRubbingOutAtColumnZero(t *testing.T) {
	x := New()
	x.Receive(api.Good, "ab")
	x.Write("\r")
	x.Receive(api.Good, "\x7f")
	if sent := drained(t, x); sent != "ab\r"+rub(1) || x.Status().Column != 0 {
		t.Errorf("P8: sent %q, %+v", sent, x.Status())
	}
}

func TestNext(t *testing.T) {
	for _, c := range []struct {
		why    string
		change func(*api.Settings)
		sent   string
		quoted bool
		there  string
	}{
		{"seen", plain, "^\b", true, ""},
		{"without Echo", silent, "", true, ""},
		{"without EchoControl", without(api.EchoControl), "", true, ""},
		{"not without Extended", without(api.Extended), "^V", false, "\x16"},
		{"not without Lines", without(api.Lines), "^V", false, "\x16"},
	} {
		x := with(t, c.change)
		x.Receive(api.Good, "\x16")
		if sent := drained(t, x); sent != c.sent || x.Status().Quoted != c.quoted || entries(x) != c.there {
			t.Errorf("P8: Next: %s: sent %q, %+v, %q", c.why, sent, x.Status(), entries(x))
		}
	}
	x := New()
	x.Receive(api.Good, "ab\x16")
	if x.Status().Column != 2 {
		t.Errorf("P8: Next: %+v", x.Status())
	}
	x.Receive(api.Good, "\x16")
	if entries(x) != "ab\x16" || x.Status().Quoted {
		t.Errorf("P8: Next twice: %q, %+v", entries(x), x.Status())
	}
}

func TestReprint(t *testing.T) {
	check(t, "P8", []came{
		{"the pending line", plain, api.Good, "ab\ncd\x01\x12", "ab\r\ncd^A^R\r\ncd^A", "ab\n|cd\x01"},
		{"nothing pending", plain, api.Good, "\x12", "^R\r\n", ""},
		{"nothing behind a line", plain, api.Good, "ab\n\x12", "ab\r\n^R\r\n", "ab\n|"},
		{"another byte", char(api.Reprint, '!'), api.Good, "a!", "a!\r\na", "a"},
		{"without EchoControl", without(api.EchoControl), api.Good, "a\x12", "a\x12\r\na", "a"},
		{"not without Echo", silent, api.Good, "a\x12", "", "a\x12"},
		{"not without Extended", without(api.Extended), api.Good, "a\x12", "a^R", "a\x12"},
		{"and rubbed out", plain, api.Good, "a\x01\x12\x15", "a^A^R\r\na^A" + rub(3), ""},
		{"NL by the flags", func(s *api.Settings) { s.Out = 0 }, api.Good, "a\x12", "a^R\na", "a"},
	})
}

func TestReprintMakesNewCells(t *testing.T) {
	// A TAB that stands elsewhere now.
	x := New()
	x.Write("abc")
	x.Receive(api.Good, "\t")
	if cells(x) != "5" {
		t.Errorf("P7: the cells are %s", cells(x))
	}
	x.Receive(api.Good, "\x12")
	if cells(x) != "8" {
		t.Errorf("P8: the new cells are %s", cells(x))
	}
	// More, and fewer, by other settings.
	y := with(t, without(api.EchoControl))
	y.Receive(api.Good, "a\x01b\x12")
	if cells(y) != "101" {
		t.Errorf("P8: the cells are %s", cells(y))
	}
	reset(t, y, local(api.EchoControl))
	y.Receive(api.Good, "\x12")
	if cells(y) != "121" {
		t.Errorf("P8: the new cells are %s", cells(y))
	}
	reset(t, y, without(api.EchoControl))
	y.Receive(api.Good, "\x12")
	if cells(y) != "101" {
		t.Errorf("P8: the new cells are %s", cells(y))
	}
	// What was not echoed ahead of it.
	z := with(t, silent)
	z.Receive(api.Good, "x\ny")
	reset(t, z, local(api.Echo))
	z.Receive(api.Good, "\x12")
	if cells(z) != "001" {
		t.Errorf("P8: the new cells are %s", cells(z))
	}
}

func TestReprintWithoutRoom(t *testing.T) {
	x := New()
	x.Receive(api.Good, "ab\x01c")
	drained(t, x)
	x.Write(strings.Repeat("\x00", api.MaxOut-7))
	x.Receive(api.Good, "\x12")
	if sent := drained(t, x); strings.TrimLeft(sent, "\x00") != "^R\r\nabc" || cells(x) != "1101" || entries(x) != "ab\x01c" {
		t.Errorf("P8: sent %q, cells %s", sent, cells(x))
	}
	// No room for the byte, nor for NL.
	y := New()
	y.Receive(api.Good, "a")
	y.Write(strings.Repeat("\x00", api.MaxOut-2))
	y.Receive(api.Good, "\x12")
	if y.Status().Out != 256 || cells(y) != "1" {
		t.Errorf("P8: %+v, cells %s", y.Status(), cells(y))
	}
}

func TestSetOverThePendingLine(t *testing.T) {
	twice := func(x *Terminal) {
		reset(t, x, without(api.Lines))
		reset(t, x, local(api.Lines))
	}
	// The cells are 0, and no entry ends a line: all are rubbed out, and nothing is seen of it.
	x := New()
	x.Receive(api.Good, "ab\n\x04c\x01")
	drained(t, x)
	twice(x)
	if entries(x) != "ab\nc\x01" || cells(x) != "00000" {
		t.Errorf("P4: entries %q, cells %s", entries(x), cells(x))
	}
	x.Receive(api.Good, "d\x7f\x7f")
	if sent := drained(t, x); sent != "d"+rub(1) || entries(x) != "ab\nc" {
		t.Errorf("P4: sent %q, entries %q", sent, entries(x))
	}
	x.Receive(api.Good, "\x12")
	if sent := drained(t, x); sent != "^R\r\nab\r\nc" || cells(x) != "1101" {
		t.Errorf("P8: sent %q, cells %s", sent, cells(x))
	}
	x.Receive(api.Good, "\x15")
	if sent := drained(t, x); sent != rub(3) || entries(x) != "" {
		t.Errorf("P8: sent %q, entries %q", sent, entries(x))
	}
	// What was quoted next is not any more.
	x.Receive(api.Good, "\x16")
	twice(x)
	x.Receive(api.Good, "\x03")
	if l := x.Signals(); len(l) != 1 || x.Status().Quoted {
		t.Errorf("P4: signals %v, %+v", l, x.Status())
	}
	// What came without Lines is the pending line with it.
	reset(t, x, without(api.Lines))
	x.Receive(api.Good, "a\n\x04")
	drained(t, x)
	reset(t, x, local(api.Lines))
	x.Receive(api.Good, "\x7f\x7f")
	if sent := drained(t, x); sent != "" || entries(x) != "a" {
		t.Errorf("P4: sent %q, entries %q", sent, entries(x))
	}
}

func TestSetOfOtherFlagsLeavesThePendingLine(t *testing.T) {
	x := New()
	x.Receive(api.Good, "ab\n\x04c\x01\x16")
	reset(t, x, func(s *api.Settings) { s.In, s.Out, s.Local = 0, 0, api.Lines|api.Echo|api.EchoErase })
	if entries(x) != "ab\n|EOF|c\x01" || cells(x) != "110012" || !x.Status().Quoted {
		t.Errorf("P4: entries %q, cells %s, %+v", entries(x), cells(x), x.Status())
	}
	drained(t, x)
	x.Receive(api.Good, "\x7f\x7f\x7f")
	if sent := drained(t, x); sent != "\x7f"+rub(2) || entries(x) != "ab\n|EOF|c" {
		t.Errorf("P8: sent %q, entries %q", sent, entries(x))
	}
}

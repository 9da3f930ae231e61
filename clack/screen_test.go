package clack

import (
	"math/rand/v2"
	"strings"
	"testing"

	"clack/api"
	"clack/input"
)

// screen is the last row of one without end, and where the next byte stands.
type screen struct {
	row    []byte
	column int
}

// show puts what was sent on the screen.
func (s *screen) show(sent string) {
	for i := range len(sent) {
		switch b := sent[i]; {
		case b == '\b':
			s.column = max(s.column-1, 0)
		case b == '\r':
			s.column = 0
		case b == '\n':
			s.row = nil
		case b < 32 || b == 127:
		default:
			for len(s.row) <= s.column {
				s.row = append(s.row, ' ')
			}
			s.row[s.column] = b
			s.column++
		}
	}
}

// looks tells how a pending line looks that begins at this column.
func looks(line input.Queue, column int) string {
	row := strings.Repeat(" ", column)
	for _, e := range line {
		switch b := e.Byte; {
		case b == '\t':
			row += strings.Repeat(" ", 8-len(row)%8)
		case b < 32 || b == 127:
			row += "^" + string([]byte{b ^ 64})
		default:
			row += string([]byte{b})
		}
	}
	return row[column:]
}

// seen are settings under which the pending line is seen as it is.
func seen(r *rand.Rand) func(*api.Settings) {
	return func(s *api.Settings) {
		must := api.Lines | api.Echo | api.EchoErase | api.EchoKillErase | api.EchoControl
		s.In = r.IntN(api.AllIn+1) &^ (api.Strip | api.BreakSignal)
		s.Out = r.IntN(api.AllOut+1)&^api.Upper | api.Process | api.Tabs | api.NLtoCRNL
		s.Local = r.IntN(api.AllLocal+1)&^(api.Signals|api.Extended) | must
		s.Chars[api.Eol] = ';'
	}
}

// ends tells how many lines have ended that were not read yet.
func ends(x *Terminal) int {
	n := 0
	for _, e := range x.in {
		if e.EndsLine {
			n++
		}
	}
	return n
}

// meddle does something, by chance, that leaves the pending line as it is.
func meddle(t *testing.T, r *rand.Rand, x *Terminal) {
	t.Helper()
	switch r.IntN(12) {
	case 0:
		x.Flow(1 + r.IntN(4))
	case 1:
		x.Tick()
	case 2:
		reset(t, x, all(seen(r), char(api.Min, r.IntN(9))))
	case 3, 4:
		if ends(x) > 0 {
			x.Read(1 + r.IntN(256))
			x.Take()
		}
	}
}

// typeOne lets one thing come, by chance, and tells whether a line ended by it.
func typeOne(r *rand.Rand, x *Terminal) bool {
	const keys = "abc  \t\t\x7f\x7f\x7f\x01\x1b\xe9\xff\x15\n\r;\x04\x13\x11\x11"
	kind := api.Good
	if r.IntN(10) == 0 {
		kind = 1 + r.IntN(2)
	}
	before := ends(x)
	x.Receive(kind, keys[r.IntN(len(keys)):][:1])
	return ends(x) > before
}

func TestTheLastRowShowsThePendingLine(t *testing.T) {
	looked := 0
	for seed := range uint64(300) {
		r := rand.New(rand.NewPCG(seed, 14))
		x := with(t, seen(r))
		var s screen
		began := 0
		for range 200 {
			if typeOne(r, x) {
				began = x.Status().Column
			}
			meddle(t, r, x)
			if x.Status().Out > 100 {
				x.Flow(api.Go)
			}
			s.show(drained(t, x))
			line := x.in.Pending()
			// An NL that ends no line would begin a new row within the line.
			if len(x.in) > 240 || strings.Contains(entries(x)[len(entries(x))-len(line):], "\n") {
				break
			}
			if x.Status().Out > 0 {
				continue // not all was sent yet
			}
			looked++
			if s.column != x.Status().Column {
				t.Fatalf("P5: run %d: the column is %d, and on the screen %d", seed, x.Status().Column, s.column)
			}
			row := string(s.row) + strings.Repeat(" ", began)
			if got := strings.TrimRight(row[began:], " "); got != strings.TrimRight(looks(line, began), " ") {
				t.Fatalf("P8, P14: run %d: the row shows %q, the line is %+v", seed, got, line)
			}
		}
	}
	if looked < 10000 {
		t.Errorf("P14: the screen was looked at only %d times", looked)
	}
}

func TestRowsOfTheScreen(t *testing.T) {
	shown := func(s *api.Settings) {
		s.Out |= api.Tabs
		s.Local &^= api.Signals | api.Extended
		s.Chars[api.Eol] = ';'
	}
	for _, c := range []struct {
		why    string
		change func(*api.Settings)
		ahead  string // was written ahead of the line
		kind   int
		s      string
		row    string
	}{
		{"printed bytes", plain, "", api.Good, "aB \xe9~", "aB \xe9~"},
		{"control bytes", plain, "", api.Good, "\x01a\x1b\x00\x7f\x03", "^Aa^[^C"},
		{"one is rubbed out as two", plain, "", api.Good, "a\x01\x7f", "a  "},
		{"CR that is not NL", func(s *api.Settings) { s.In = 0 }, "", api.Good, "a\rb", "a^Mb"},
		{"DEL that is not Erase", char(api.Erase, 8), "", api.Good, "a\x7fb\b\b", "a   "},
		{"TABs", plain, "", api.Good, "\ta\tb", strings.Repeat(" ", 8) + "a       b"},
		{"a TAB is rubbed out", plain, "", api.Good, "a\t\x7fb", "ab" + strings.Repeat(" ", 6)},
		{"a TAB at its column", plain, "", api.Good, "12345678\tx", "12345678        x"},
		{"behind a prompt", plain, "$ ", api.Good, "a\tb", "$ a     b"},
		{"behind a prompt, a TAB is rubbed out", plain, "$ ", api.Good, "\t\x7fz", "$ z     "},
		{"behind a prompt, killed", plain, "$ ", api.Good, "a\t\x01b\x15", "$ " + strings.Repeat(" ", 9)},
		{"the prompt is not rubbed out", plain, "$ ", api.Good, "a\x7f\x7f\x7f\x15", "$  "},
		{"a new row", plain, "$ ", api.Good, "ab\ncd", "cd"},
		{"a new row that is empty", plain, "", api.Good, "ab\r", ""},
		{"a line that has ended is not rubbed out", plain, "", api.Good, "ab\n\x7f\x15", ""},
		{"behind an end that begins no row", plain, "", api.Good, "ab;c\x01\x15d", "ab;d  "},
		{"behind an end of a file", plain, "", api.Good, "ab\x04c\td\x7f\x7fe", "abce     "},
		{"wrong bytes", in(api.MarkParity), "", api.Parity, "p\x7f", "\xff^@p\xff^@^?"},
		{"a break", plain, "$ ", api.Break, "", "$ ^@"},
		{"EchoKill too", local(api.EchoKill), "", api.Good, "ab\x15c", "c "},
		{"all that may be set", all(local(api.AllLocal&^(api.Signals|api.Extended)), func(s *api.Settings) { s.Out = api.AllOut &^ api.Upper }), "", api.Good, "x\na\t\x01\x7fb", "a       b "},
	} {
		x := with(t, all(shown, c.change))
		x.Write(c.ahead)
		x.Receive(c.kind, c.s)
		var s screen
		s.show(drained(t, x))
		if string(s.row) != c.row {
			t.Errorf("P14: %s: of %q the last row is %q, want %q", c.why, c.s, s.row, c.row)
		}
	}
}

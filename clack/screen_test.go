package clack

import (
	"math/rand/v2"
	"strings"
	"testing"

	"clack/api"
	"clack/input"
)

// screen is the last row of one without end, and where the next byte stands.
type screen struct {
	row    []byte
	column int
}

// show puts what was sent on the screen.
func (s *screen) show(sent string) {
	for i := range len(sent) {
		switch b := sent[i]; {
		case b == '\b':
			s.column = max(s.column-1, 0)
		case b == '\r':
			s.column = 0
		case b == '\n':
			s.row = nil
		case b < 32 || b == 127:
		default:
			for len(s.row) <= s.column {
				s.row = append(s.row, ' ')
			}
			s.row[s.column] = b
			s.column++
		}
	}
}

// looks tells how a pending line looks that begins at this column.
func looks(line input.Queue, column int) string {
	row := strings.Repeat(" ", column)
	for _, e := range line {
		switch b := e.Byte; {
		case b == '\t':
			row += strings.Repeat(" ", 8-len(row)%8)
		case b < 32 || b == 127:
			row += "^" + string([]byte{b ^ 64})
		default:
			row += string([]byte{b})
		}
	}
	return row[column:]
}

// seen are settings under which the pending line is seen as it is.
func seen(r *rand.Rand) func(*api.Settings) {
	return func(s *api.Settings) {
		must := api.Lines | api.Echo | api.EchoErase | api.EchoKillErase | api.EchoControl
		s.In = r.IntN(api.AllIn+1) &^ (api.Strip | api.BreakSignal)
		s.Out = r.IntN(api.AllOut+1)&^api.Upper | api.Process | api.Tabs | api.NLtoCRNL
		s.Local = r.IntN(api.AllLocal+1)&^(api.Signals|api.Extended) | must
		s.Chars[api.Eol] = ';'
	}
}

func TestTheLastRowShowsThePendingLine(t *testing.T) {
	const keys = "abc  \t\t\x7f\x7f\x7f\x01\x1b\xe9\x15\n\r;\x04\x11\x11"
	for seed := range uint64(300) {
		r := rand.New(rand.NewPCG(seed, 14))
		x := with(t, seen(r))
		var s screen
		began, ended := 0, 0
		for range 200 {
			kind := api.Good
			if r.IntN(10) == 0 {
				kind = 1 + r.IntN(2)
			}
			x.Receive(kind, keys[r.IntN(len(keys)):][:1])
			s.show(drained(t, x))
			line := x.in.Pending()
			// An NL that ends no line would begin a new row within the line.
			if len(x.in) > 240 || strings.Contains(entries(x)[len(entries(x))-len(line):], "\n") {
				break
			}
			if lines := len(x.in) - len(line); lines != ended {
				began, ended = x.Status().Column, lines
			}
			if s.column != x.Status().Column {
				t.Fatalf("P5: run %d: the column is %d, and on the screen %d", seed, x.Status().Column, s.column)
			}
			row := string(s.row) + strings.Repeat(" ", began)
			if got := strings.TrimRight(row[began:], " "); got != strings.TrimRight(looks(line, began), " ") {
				t.Fatalf("P8, P14: run %d: the row shows %q, the line is %+v", seed, got, line)
			}
		}
	}
}

package output

import (
	"strings"
	"testing"

	"clack/api"
)

// full has n bytes in the output queue, at column n.
func full(t *testing.T, n int) *Output {
	t.Helper()
	var o Output
	for range n {
		if !o.Put(0, 'x') {
			t.Fatalf("P5: no room for one of %d bytes", n)
		}
	}
	return &o
}

// oneByte is P5 word by word: what one byte becomes, and the column behind it.
func oneByte(flags, column int, b byte) (string, int) {
	process := flags&api.Process != 0
	is := string([]byte{b})
	if process && flags&api.Upper != 0 && strings.Contains("abcdefghijklmnopqrstuvwxyz", is) {
		is = strings.ToUpper(is)
	}
	if process && b == 10 && flags&api.NLtoCRNL != 0 {
		is = "\x0d\x0a"
	}
	if process && b == 13 && flags&api.CRtoNLOut != 0 {
		is = "\x0a"
	}
	if process && b == 13 && flags&api.NoCRAtZero != 0 && column == 0 {
		is = ""
	}
	next := (column/8 + 1) * 8
	if process && b == 9 && flags&api.Tabs != 0 {
		is = "        "[:next-column]
	}
	for i := range len(is) {
		switch c := is[i]; {
		case c >= 32 && c != 127:
			column++
		case c == 8 && column > 0:
			column--
		case c == 13, c == 10 && process && flags&api.NLReturns != 0:
			column = 0
		case c == 9:
			column = next
		}
	}
	return is, column
}

func TestEveryByteByEveryFlag(t *testing.T) {
	for flags := range api.AllOut + 1 {
		for b := range 256 {
			for column := range 18 {
				o := Output{column: column}
				want, behind := oneByte(flags, column, byte(b))
				if !o.Put(flags, byte(b)) {
					t.Fatalf("P5: flags %d: no room for byte %d", flags, b)
				}
				if sent := o.Send(99); sent != want || o.Column() != behind {
					t.Fatalf("P5: flags %d, column %d: byte %d is %q, then column %d; want %q, %d", flags, column, b, sent, o.Column(), want, behind)
				}
			}
		}
	}
}

func TestTogetherOneAfterTheOther(t *testing.T) {
	for _, c := range []struct {
		flags    int
		together string
		want     string
		column   int
	}{
		{api.Process, "^C", "^C", 2},
		{api.Process, "\b \b", "\b \b", 0},
		{api.Process | api.Tabs, "ab\tc", "ab      c", 9},
		{api.Process | api.NLtoCRNL, "ab\n\t", "ab\r\n\t", 8},
		{api.Process | api.NoCRAtZero, "\ra\r\rb", "a\rb", 1},
		{api.Process | api.Upper, "^c", "^C", 2},
		{api.Process, "", "", 0},
	} {
		var o Output
		if !o.Put(c.flags, []byte(c.together)...) {
			t.Errorf("P5: flags %d: no room for %q", c.flags, c.together)
		}
		if sent := o.Send(99); sent != c.want || o.Column() != c.column {
			t.Errorf("P5: flags %d: %q is %q, then column %d; want %q, %d", c.flags, c.together, sent, o.Column(), c.want, c.column)
		}
	}
}

func TestTogetherAllOrNone(t *testing.T) {
	for _, c := range []struct {
		flags, waiting int
		together       string
		fits           bool
		waitingThen    int
		columnThen     int
	}{
		{0, 254, "^C", true, 256, 256},
		{0, 255, "^C", false, 255, 255},
		{0, 256, "^C", false, 256, 256},
		{0, 253, "\b \b", true, 256, 252},
		{0, 254, "\b \b", false, 254, 254},
		{api.Process | api.NLtoCRNL, 254, "\n", true, 256, 0},
		{api.Process | api.NLtoCRNL, 255, "\n", false, 255, 255},
		{api.Process | api.Tabs, 248, "\t", true, 256, 256},
		{api.Process | api.Tabs, 249, "\t", true, 256, 256},
		{api.Process | api.Tabs, 255, "a\t", false, 255, 255},
		{api.Process, 256, "", true, 256, 256},
	} {
		o := full(t, c.waiting)
		if fits := o.Put(c.flags, []byte(c.together)...); fits != c.fits {
			t.Errorf("P5: %q behind %d bytes: room is %v", c.together, c.waiting, fits)
		}
		if o.Len() != c.waitingThen || o.Column() != c.columnThen {
			t.Errorf("P5: %q behind %d bytes: then %d, column %d; want %d, %d", c.together, c.waiting, o.Len(), o.Column(), c.waitingThen, c.columnThen)
		}
	}
}

func TestNothingFindsRoomInAFullQueue(t *testing.T) {
	o := full(t, api.MaxOut-1)
	o.Put(0, '\r')
	if !o.Put(api.Process|api.NoCRAtZero, '\r') || o.Len() != api.MaxOut {
		t.Errorf("P5: a CR that is nothing needs no room")
	}
	if o.Put(api.Process, '\r') {
		t.Errorf("P5: a CR that is itself found room in a full queue")
	}
}

func TestPutKeepsNothingOfItsArgument(t *testing.T) {
	var o Output
	together := []byte("^C")
	o.Put(0, together...)
	o.Urge(together...)
	together[0], together[1] = 'z', 'z'
	if sent := o.Send(9); sent != "^C^C" {
		t.Errorf("P2: what waits was changed from outside: %q", sent)
	}
}

func TestUrgentGoFirst(t *testing.T) {
	o := full(t, 3)
	o.Urge(19)
	o.Urge(17)
	if o.Len() != 3 || o.Column() != 3 {
		t.Errorf("P6: urgent bytes are in the output queue: %d, column %d", o.Len(), o.Column())
	}
	for _, c := range []struct {
		n    int
		want string
	}{{0, ""}, {1, "\x13"}, {2, "\x11x"}, {1, "x"}, {9, "x"}, {9, ""}} {
		if sent := o.Send(c.n); sent != c.want {
			t.Errorf("P6: Send(%d) = %q, want %q", c.n, sent, c.want)
		}
	}
}

func TestStoppedSendsOnlyUrgent(t *testing.T) {
	o := full(t, 2)
	o.SetStopped(true)
	o.Urge(17)
	if sent := o.Send(9); sent != "\x11" || o.Len() != 2 || !o.Stopped() {
		t.Errorf("P6: while stopped there was sent %q, %d wait", sent, o.Len())
	}
	if sent := o.Send(9); sent != "" || o.Len() != 2 {
		t.Errorf("P6: while stopped there was sent %q, %d wait", sent, o.Len())
	}
	if !o.Put(0, 'y') {
		t.Errorf("P5: no room while stopped")
	}
	o.SetStopped(false)
	if sent := o.Send(9); sent != "xxy" || o.Len() != 0 || o.Stopped() {
		t.Errorf("P6: let go on, there was sent %q, %d wait", sent, o.Len())
	}
}

func TestUrgentNeedNoRoom(t *testing.T) {
	o := full(t, api.MaxOut)
	o.Urge(19)
	if sent := o.Send(2); sent != "\x13x" {
		t.Errorf("P6: Send(2) = %q", sent)
	}
}

func TestClearLeavesTheRest(t *testing.T) {
	o := full(t, 3)
	o.Urge(19)
	o.SetStopped(true)
	o.Clear()
	o.Clear()
	if o.Len() != 0 || o.Column() != 3 || !o.Stopped() {
		t.Errorf("P7: emptied: %d bytes, column %d, stopped %v", o.Len(), o.Column(), o.Stopped())
	}
	o.SetStopped(false)
	if sent := o.Send(9); sent != "\x13" {
		t.Errorf("P7: emptied, it sent %q", sent)
	}
}

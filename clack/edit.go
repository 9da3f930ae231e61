package clack

import (
	"bytes"
	"slices"

	"clack/api"
	"clack/flags"
	"clack/input"
)

// eraseLast rubs out the last entry of the pending line.
func (t *Terminal) eraseLast(b byte) { t.rubOut(b, min(1, len(t.in.Pending()))) }

// eraseWord rubs out the last word of the pending line, and what is behind it.
func (t *Terminal) eraseWord(b byte) { t.rubOut(b, t.in.LastWord()) }

// rubOut rubs out the last n entries, for the byte b.
func (t *Terminal) rubOut(b byte, n int) {
	gone := t.in.RubOut(n)
	local := t.settings.Local
	switch {
	case flags.Has(local, api.Echo|api.EchoErase):
		t.showGone(gone)
	case flags.Has(local, api.Echo) && n > 0:
		t.echo(b)
	}
}

// killLine rubs out the pending line.
func (t *Terminal) killLine(b byte) {
	gone := t.in.RubOut(len(t.in.Pending()))
	local := t.settings.Local
	switch {
	case flags.Has(local, api.Echo|api.EchoErase|api.EchoKillErase):
		t.showGone(gone)
	case flags.Has(local, api.Echo|api.EchoKill):
		t.echo(b)
		t.putOut('\n')
	case flags.Has(local, api.Echo):
		t.echo(b)
	}
}

// showGone takes the echo of entries off the screen, the last one first.
func (t *Terminal) showGone(gone input.Queue) {
	for _, e := range slices.Backward(gone) {
		t.putOut(rubbing(e)...)
	}
}

// rubbing tells the bytes that take the echo of an entry off. That of a TAB left nothing that would have to be blanked.
func rubbing(e input.Entry) []byte {
	cell := "\b \b"
	if e.Byte == '\t' {
		cell = "\b"
	}
	return bytes.Repeat([]byte(cell), e.Cells)
}

// quoteNext lets the next byte be quoted, and marks where it will stand.
func (t *Terminal) quoteNext(byte) {
	t.quotes = true
	if flags.Has(t.settings.Local, api.Echo|api.EchoControl) {
		t.putOut('^', '\b')
	}
}

// reprint shows the pending line anew, in a row of its own.
func (t *Terminal) reprint(b byte) {
	t.echo(b)
	t.putOut('\n')
	line := t.in.Pending()
	for i := range line {
		line[i].Cells = t.echo(line[i].Byte)
	}
}

package clack

import (
	"clack/api"
	"clack/ascii"
	"clack/flags"
	"clack/input"
)

// layDown lays bytes down that end no line, one after the other.
func (t *Terminal) layDown(together ...byte) {
	for _, b := range together {
		t.enter(input.Entry{Byte: b})
	}
}

// endLine lays down a byte that ends a line.
func (t *Terminal) endLine(b byte) { t.enter(input.Entry{Byte: b, EndsLine: true}) }

// endFile lays down the end of a file.
func (t *Terminal) endFile(byte) { t.enter(input.Entry{EndOfFile: true, EndsLine: true}) }

// enter lays one thing down, or loses it if the input queue is full.
func (t *Terminal) enter(e input.Entry) {
	if len(t.in) >= t.mostEntries(e) {
		if flags.Has(t.settings.In, api.Bell) {
			t.putOut('\a')
		}
		return
	}
	if !e.EndOfFile {
		e.Cells = t.echo(e.Byte)
	}
	t.in.Add(e)
	t.read.wait = 0
}

// mostEntries tells how many entries there must not be yet where this one comes. The last one is kept for the end of a line, so that a line that is too long can be ended.
func (t *Terminal) mostEntries(e input.Entry) int {
	if flags.Has(t.settings.Local, api.Lines) && !e.EndsLine {
		return api.MaxIn - 1
	}
	return api.MaxIn
}

// echo shows a byte to who typed it, and tells its cells.
func (t *Terminal) echo(b byte) int {
	if !t.echoes(b) {
		return 0
	}
	before := t.out.Column()
	if t.showsAsTwo(b) {
		t.putOut('^', b^64)
	} else {
		t.putOut(b)
	}
	return max(t.out.Column()-before, 0)
}

// echoes tells whether a byte is shown at all.
func (t *Terminal) echoes(b byte) bool {
	local := t.settings.Local
	return flags.Has(local, api.Echo) || b == '\n' && flags.Has(local, api.EchoNL|api.Lines)
}

// showsAsTwo tells whether a byte is shown as a sign behind `^`.
func (t *Terminal) showsAsTwo(b byte) bool {
	return flags.Has(t.settings.Local, api.EchoControl) && ascii.IsControl(b) && b != '\n' && b != '\t'
}

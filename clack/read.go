package clack

import (
	"clack/api"
	"clack/flags"
)

const (
	mostToRead  = 256 // bytes of one read
	longestWait = 255 // no Time is longer
)

// reading is a read, from the call that begins it to the one that takes what it has. Its zero value is none.
type reading struct {
	most  int // so many bytes it may have, at least 1; 0: there is no read
	wait  int // Ticks since it began, or since something became an entry behind that
	ended bool
	has   string // once it has ended
}

// isThere tells whether there is a read.
func (r *reading) isThere() bool { return r.most > 0 }

// tick lets the wait grow, as far as a Time can ask for it.
func (r *reading) tick() { r.wait = min(r.wait+1, longestWait) }

// endRead ends the read, if there is one that can end. What it has is kept apart, so that nothing which comes behind it can change it.
func (t *Terminal) endRead() {
	if !t.read.isThere() || t.read.ended || !t.canEnd() {
		return
	}
	t.read.ended = true
	if t.readsLines() {
		t.read.has = t.in.TakeLine(t.read.most)
	} else {
		t.read.has = t.in.Take(t.read.most)
	}
}

// readsLines tells whether who reads gets whole lines, and not bytes as they come.
func (t *Terminal) readsLines() bool { return flags.Has(t.settings.Local, api.Lines) }

// canEnd tells whether a read has what it waits for.
func (t *Terminal) canEnd() bool {
	if t.readsLines() {
		return t.in.FirstLine() > 0
	}
	least, time := t.settings.Chars[api.Min], t.settings.Chars[api.Time]
	some := len(t.in) > 0
	enough := len(t.in) >= min(least, t.read.most)
	late := t.read.wait >= time
	switch {
	case least == 0: // if Time is 0 too it is late from the beginning
		return some || late
	case time == 0:
		return enough
	}
	return enough || some && late
}

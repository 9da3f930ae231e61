package clack

import (
	"clack/api"
	"clack/flags"
)

// Places beside those of the characters: what a row asks of a byte that no setting can change.
const (
	newline = api.Places + iota
	anyByte
)

// meaning is a row of a table of what bytes mean: the flags that must be set, the place whose character the byte must be, and what is done.
type meaning struct {
	in, local int
	place     int
	do        func(t *Terminal, b byte)
}

// flowMeanings are those by which who types stops what is sent.
func flowMeanings() []meaning {
	return []meaning{
		{in: api.FlowOut, place: api.Start, do: (*Terminal).goOn},
		{in: api.FlowOut, place: api.Stop, do: (*Terminal).stop},
	}
}

// signalMeanings are those that raise a signal.
func signalMeanings() []meaning {
	return []meaning{
		{local: api.Signals, place: api.Intr, do: raise(api.Interrupt)},
		{local: api.Signals, place: api.Quit, do: raise(api.Quits)},
		{local: api.Signals, place: api.Susp, do: raise(api.Suspend)},
	}
}

// lineMeanings are those that edit a line or end it. The last one is that of all else.
func lineMeanings() []meaning {
	return []meaning{
		{local: api.Lines, place: api.Erase, do: (*Terminal).eraseLast},
		{local: api.Lines, place: api.Kill, do: (*Terminal).killLine},
		{local: api.Lines | api.Extended, place: api.Werase, do: (*Terminal).eraseWord},
		{local: api.Lines | api.Extended, place: api.Next, do: (*Terminal).quoteNext},
		{local: api.Lines | api.Extended | api.Echo, place: api.Reprint, do: (*Terminal).reprint},
		{local: api.Lines, place: api.Eof, do: (*Terminal).endFile},
		{local: api.Lines, place: newline, do: (*Terminal).endLine},
		{local: api.Lines, place: api.Eol, do: (*Terminal).endLine},
		{place: anyByte, do: func(t *Terminal, b byte) { t.layDown(b) }},
	}
}

// taken hands a byte to the first row that it fits, and tells whether there was one.
func (t *Terminal) taken(b byte, table []meaning) bool {
	for _, m := range table {
		if t.fits(b, m) {
			m.do(t, b)
			return true
		}
	}
	return false
}

// fits tells whether a row is the byte's, by the settings.
func (t *Terminal) fits(b byte, m meaning) bool {
	return flags.Has(t.settings.In, m.in) && flags.Has(t.settings.Local, m.local) && t.isAt(b, m.place)
}

// isAt tells whether a byte is the character at a place.
func (t *Terminal) isAt(b byte, place int) bool {
	switch place {
	case newline:
		return b == '\n'
	case anyByte:
		return true
	}
	return b != 0 && int(b) == t.settings.Chars[place]
}

package clack

import (
	"clack/api"
	"clack/ascii"
	"clack/flags"
)

// mark is the byte that stands ahead of what came in a wrong way. If it comes itself it is doubled, so that who reads can tell the two.
const mark = 255

// eachCame lets the bytes come one after the other.
func (t *Terminal) eachCame(s string, came func(*Terminal, byte)) {
	for i := range len(s) {
		came(t, s[i])
		t.lookAfter()
	}
}

// breakCame is what a break does.
func (t *Terminal) breakCame() {
	in := t.settings.In
	switch {
	case flags.Has(in, api.IgnoreBreak):
	case flags.Has(in, api.BreakSignal):
		t.signal(api.Interrupt)
	default:
		t.layWrong(0)
	}
}

// wrongCame is what a byte of wrong parity does.
func (t *Terminal) wrongCame(b byte) {
	if !flags.Has(t.settings.In, api.IgnoreParity) {
		t.layWrong(b)
	}
}

// layWrong lays down what came in a wrong way: marked, so that it can be told from what came well, or as a byte 0.
func (t *Terminal) layWrong(b byte) {
	if flags.Has(t.settings.In, api.MarkParity) {
		t.layDown(mark, 0, b)
	} else {
		t.layDown(0)
	}
}

// goodCame is what a good byte does.
func (t *Terminal) goodCame(b byte) {
	in := t.settings.In
	switch {
	case flags.Has(in, api.Strip):
		b &= 127
	case flags.Has(in, api.MarkParity) && b == mark:
		t.layDown(mark, mark)
		return
	}
	if flags.Has(in, api.Lower) && flags.Has(t.settings.Local, api.Extended) {
		b = ascii.ToSmall(b)
	}
	if t.quotes {
		t.quotes = false
		t.layDown(b)
		return
	}
	t.heed(b)
}

// heed does what a byte means that is not quoted.
func (t *Terminal) heed(b byte) {
	in := t.settings.In
	if t.taken(b, flowMeanings()) {
		return
	}
	if flags.Has(in, api.FlowOut|api.AnyStarts) {
		t.goOn(b)
	}
	if t.taken(b, signalMeanings()) {
		return
	}
	switch {
	case b == '\r' && flags.Has(in, api.IgnoreCR):
		return
	case b == '\r' && flags.Has(in, api.CRtoNL):
		b = '\n'
	case b == '\n' && flags.Has(in, api.NLtoCR):
		b = '\r'
	}
	t.taken(b, lineMeanings())
}

// raise makes what the character of a signal does.
func raise(signal int) func(*Terminal, byte) {
	return func(t *Terminal, b byte) {
		t.signal(signal)
		t.echo(b)
	}
}

// signal notes a signal, and throws away what came and was put out ahead of it.
func (t *Terminal) signal(signal int) {
	t.signals = append(t.signals, signal)
	if !flags.Has(t.settings.Local, api.NoFlush) {
		t.emptyBoth()
		t.quotes = false
	}
}

package clack

import (
	"clack/api"
	"clack/flags"
)

// firstSettings tells the settings of a new terminal.
func firstSettings() api.Settings {
	return api.Settings{
		In:  api.CRtoNL | api.FlowOut,
		Out: api.Process | api.NLtoCRNL,
		Local: api.Signals | api.Lines | api.Echo | api.EchoErase | api.EchoKill |
			api.EchoControl | api.EchoKillErase | api.Extended,
		Chars: [api.Places]int{
			api.Intr:    3,
			api.Quit:    28,
			api.Susp:    26,
			api.Erase:   127,
			api.Werase:  23,
			api.Kill:    21,
			api.Eof:     4,
			api.Eol:     0,
			api.Start:   17,
			api.Stop:    19,
			api.Next:    22,
			api.Reprint: 18,
			api.Min:     1,
			api.Time:    0,
		},
	}
}

// known leaves of settings the flags that there are, and of each character a byte.
func known(s api.Settings) api.Settings {
	s.In &= api.AllIn
	s.Out &= api.AllOut
	s.Local &= api.AllLocal
	for place := range s.Chars {
		s.Chars[place] &= 255
	}
	return s
}

// change puts settings in force, with what follows from it for what came under the old ones.
func (t *Terminal) change(s api.Settings) {
	if flags.Has(s.Local^t.settings.Local, api.Lines) {
		t.in.ForgetLines()
	}
	if !flags.Has(s.Local, api.Lines) {
		t.quotes = false
	}
	t.settings = s
}

package clack

import (
	"clack/api"
	"clack/flags"
)

// goOn lets the output queue be sent again.
func (t *Terminal) goOn(byte) { t.out.SetStopped(false) }

// stop keeps the output queue back.
func (t *Terminal) stop(byte) { t.out.SetStopped(true) }

// lookAfter does what is asked behind each call by which it may have come due, and behind each thing that came. The read is first: by what it has it may let the other side go on, or keep it from being held.
func (t *Terminal) lookAfter() {
	t.endRead()
	t.holdOrLetGo()
}

// holdOrLetGo tells the other side to stand still, or to go on, by how much waits to be read (P9).
func (t *Terminal) holdOrLetGo() {
	flowIn := flags.Has(t.settings.In, api.FlowIn)
	switch {
	case flowIn && !t.held && len(t.in) >= api.High:
		t.held = true
		t.urge(api.Stop)
	case t.held && (len(t.in) <= api.Low || !flowIn):
		t.held = false
		t.urge(api.Start)
	}
}

// urge makes the character at a place urgent, if there is one.
func (t *Terminal) urge(place int) {
	if char := t.settings.Chars[place]; char != 0 {
		t.out.Urge(byte(char))
	}
}

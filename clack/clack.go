// Package clack: a terminal's line discipline: see DOC.md.
package clack

import (
	"clack/api"
	"clack/input"
	"clack/output"
)

// Terminal is what stands between a line and those who read and write it.
type Terminal struct {
	settings api.Settings
	in       input.Queue
	out      output.Output
	read     reading
	signals  []int // noted since they were told last
	held     bool  // the other side is to stand still
	quotes   bool  // the next byte that comes is laid down, whatever it is
}

// New makes a terminal (P3).
func New() *Terminal { return &Terminal{settings: firstSettings()} }

// Get tells the settings (P4).
func (t *Terminal) Get() api.Settings { return t.settings }

// Set changes the settings (P4).
func (t *Terminal) Set(s api.Settings, when int) api.Errno {
	if when != api.Now && when != api.Drain && when != api.Flush {
		return api.ErrKind
	}
	if when != api.Now && t.out.Len() > 0 {
		return api.ErrBusy
	}
	if when == api.Flush {
		t.in.Clear()
	}
	t.change(known(s))
	t.lookAfter()
	return api.OK
}

// Write puts bytes out (P5).
func (t *Terminal) Write(s string) int {
	for i := range len(s) {
		if !t.putOut(s[i]) {
			return i
		}
	}
	return len(s)
}

// Drain sends bytes (P6).
func (t *Terminal) Drain(n int) (string, api.Errno) {
	if n < 0 {
		return "", api.ErrSize
	}
	return t.out.Send(n), api.OK
}

// Receive takes in what comes (P7 to P10).
func (t *Terminal) Receive(kind int, s string) api.Errno {
	switch kind {
	case api.Good:
		t.eachCame(s, (*Terminal).goodCame)
	case api.Parity:
		t.eachCame(s, (*Terminal).wrongCame)
	case api.Break:
		t.breakCame()
		t.lookAfter()
	default:
		return api.ErrKind
	}
	return api.OK
}

// Read begins to read (P10).
func (t *Terminal) Read(n int) api.Errno {
	if n < 1 || n > mostToRead {
		return api.ErrSize
	}
	if t.read.isThere() {
		return api.ErrBusy
	}
	t.read = reading{most: n}
	t.lookAfter()
	return api.OK
}

// Take tells what was read (P10).
func (t *Terminal) Take() (string, bool, api.Errno) {
	if !t.read.isThere() {
		return "", false, api.ErrNone
	}
	if !t.read.ended {
		return "", false, api.OK
	}
	has := t.read.has
	t.read = reading{}
	return has, true, api.OK
}

// Tick lets a tenth of a second pass (P10).
func (t *Terminal) Tick() {
	t.read.tick()
	t.lookAfter()
}

// Flush throws away what waits (P11).
func (t *Terminal) Flush(which int) api.Errno {
	switch which {
	case api.Input:
		t.in.Clear()
	case api.Output:
		t.out.Clear()
	case api.Both:
		t.emptyBoth()
	default:
		return api.ErrKind
	}
	t.lookAfter()
	return api.OK
}

// Flow stops and starts (P11).
func (t *Terminal) Flow(action int) api.Errno {
	switch action {
	case api.Hold:
		t.out.SetStopped(true)
	case api.Go:
		t.out.SetStopped(false)
	case api.SendStop:
		t.urge(api.Stop)
	case api.SendStart:
		t.urge(api.Start)
	default:
		return api.ErrKind
	}
	return api.OK
}

// Signals tells the signals that there were (P12).
func (t *Terminal) Signals() []int {
	told := t.signals
	// What is told belongs to who asked: nothing of it may be written to again.
	t.signals = nil
	return told
}

// Status tells how it stands (P12).
func (t *Terminal) Status() api.Status {
	return api.Status{
		In:      len(t.in),
		Out:     t.out.Len(),
		Column:  t.out.Column(),
		Stopped: t.out.Stopped(),
		Held:    t.held,
		Quoted:  t.quotes,
	}
}

// emptyBoth empties both queues. What is urgent stays, and so does the read: neither is of a queue.
func (t *Terminal) emptyBoth() {
	t.in.Clear()
	t.out.Clear()
}

// putOut puts bytes out together, by the settings; it tells whether there was room.
func (t *Terminal) putOut(together ...byte) bool {
	return t.out.Put(t.settings.Out, together...)
}

package clack

import (
	"fmt"
	"math/rand/v2"
	"slices"
	"strings"
	"testing"

	"clack/api"
	"clack/input"
	"clack/output"
)

// model is P4 and P7 to P11 of the document, word by word and without tables; P5 and P6 are those of package output.
type model struct {
	output.Output
	s            api.Settings
	queue        []input.Entry
	held, quotes bool
	signals      []int
	size, wait   int // of the read; the size is 0 if there is none
	ended        bool
	got          string
}

func (m *model) in(flag int) bool      { return m.s.In&flag != 0 }
func (m *model) local(flag int) bool   { return m.s.Local&flag != 0 }
func (m *model) is(b byte, p int) bool { return b != 0 && m.s.Chars[p] == int(b) }
func (m *model) put(together string)   { m.Put(m.s.Out, []byte(together)...) }

func (m *model) backward() []input.Entry {
	l := slices.Clone(m.queue)
	slices.Reverse(l)
	return l
}

// pending tells how many entries the pending line has.
func (m *model) pending() int {
	for i, e := range m.backward() {
		if e.EndsLine {
			return i
		}
	}
	return len(m.queue)
}

func (m *model) canEnd() bool {
	if m.local(api.Lines) {
		return m.pending() < len(m.queue)
	}
	a, least, time := len(m.queue), m.s.Chars[api.Min], m.s.Chars[api.Time]
	if least == 0 && time == 0 {
		return true
	}
	if least == 0 {
		return a >= 1 || m.wait >= time
	}
	lesser := least
	if m.size < least {
		lesser = m.size
	}
	if time == 0 {
		return a >= lesser
	}
	return a >= lesser || a >= 1 && m.wait >= time
}

func (m *model) endRead() {
	if m.size == 0 || m.ended || !m.canEnd() {
		return
	}
	m.ended = true
	for len(m.queue) > 0 {
		e := m.queue[0]
		if !e.EndOfFile && len(m.got) == m.size {
			return
		}
		m.queue = m.queue[1:]
		if !e.EndOfFile {
			m.got += string([]byte{e.Byte})
		}
		if e.EndsLine {
			return
		}
	}
}

func (m *model) read(n int) api.Errno {
	if n < 1 || n > 256 {
		return api.ErrSize
	}
	if m.size != 0 {
		return api.ErrBusy
	}
	m.size, m.wait, m.ended, m.got = n, 0, false, ""
	m.behind()
	return api.OK
}

func (m *model) take() (string, bool, api.Errno) {
	if m.size == 0 {
		return "", false, api.ErrNone
	}
	if !m.ended {
		return "", false, api.OK
	}
	m.size = 0
	return m.got, true, api.OK
}

func (m *model) tick() {
	m.wait++
	m.behind()
}

func (m *model) behind() {
	m.endRead()
	if m.in(api.FlowIn) && !m.held && len(m.queue) >= 192 {
		m.held = true
		if m.s.Chars[api.Stop] != 0 {
			m.Urge(byte(m.s.Chars[api.Stop]))
		}
	}
	if m.held && (len(m.queue) <= 64 || !m.in(api.FlowIn)) {
		m.held = false
		if m.s.Chars[api.Start] != 0 {
			m.Urge(byte(m.s.Chars[api.Start]))
		}
	}
}

func (m *model) set(s api.Settings, when int) api.Errno {
	if when < 0 || when > 2 {
		return api.ErrKind
	}
	if when > 0 && m.Len() > 0 {
		return api.ErrBusy
	}
	if when == api.Flush {
		m.queue = nil
	}
	old := m.s
	m.s = s
	if old.Local&api.Lines != s.Local&api.Lines {
		m.queue = slices.DeleteFunc(m.queue, func(e input.Entry) bool { return e.EndOfFile })
		for i := range m.queue {
			m.queue[i].EndsLine = false
			m.queue[i].Cells = 0
		}
	}
	if !m.local(api.Lines) {
		m.quotes = false
	}
	m.behind()
	return api.OK
}

func (m *model) flush(which int) api.Errno {
	if which < 1 || which > 3 {
		return api.ErrKind
	}
	if which == api.Input || which == api.Both {
		m.queue = nil
	}
	if which == api.Output || which == api.Both {
		m.Clear()
	}
	m.behind()
	return api.OK
}

func (m *model) flow(action int) api.Errno {
	if action < 1 || action > 4 {
		return api.ErrKind
	}
	if action == api.Hold || action == api.Go {
		m.SetStopped(action == api.Hold)
	}
	if stop := m.s.Chars[api.Stop]; action == api.SendStop && stop != 0 {
		m.Urge(byte(stop))
	}
	if start := m.s.Chars[api.Start]; action == api.SendStart && start != 0 {
		m.Urge(byte(start))
	}
	m.behind()
	return api.OK
}

func (m *model) echo(b byte) int {
	if !(m.local(api.Echo) || b == 10 && m.local(api.EchoNL) && m.local(api.Lines)) {
		return 0
	}
	was := m.Column()
	if (b < 32 || b == 127) && b != 10 && b != 9 && m.local(api.EchoControl) {
		m.put("^" + string([]byte{b ^ 64}))
	} else {
		m.put(string([]byte{b}))
	}
	if m.Column() > was {
		return m.Column() - was
	}
	return 0
}

func (m *model) lay(e input.Entry) {
	room := len(m.queue) < 256
	if m.local(api.Lines) && !e.EndsLine {
		room = len(m.queue) < 255
	}
	if !room {
		if m.in(api.Bell) {
			m.put("\a")
		}
		return
	}
	if !e.EndOfFile {
		e.Cells = m.echo(e.Byte)
	}
	m.queue = append(m.queue, e)
	m.wait = 0
}

func (m *model) layAll(s string) {
	for i := range len(s) {
		m.lay(input.Entry{Byte: s[i]})
	}
}

func (m *model) signal(n int) {
	m.signals = append(m.signals, n)
	if !m.local(api.NoFlush) {
		m.queue, m.quotes = nil, false
		m.Clear()
	}
}

func (m *model) receive(kind int, s string) {
	if kind == api.Break {
		s = "b"
	}
	for i := range len(s) {
		switch kind {
		case api.Break:
			m.brk()
		case api.Parity:
			m.parity(s[i])
		default:
			m.good(s[i])
		}
		m.behind()
	}
}

func (m *model) brk() {
	if m.in(api.IgnoreBreak) {
		return
	}
	if m.in(api.BreakSignal) {
		m.signal(api.Interrupt)
	} else if m.in(api.MarkParity) {
		m.layAll("\xff\x00\x00")
	} else {
		m.layAll("\x00")
	}
}

func (m *model) parity(b byte) {
	if m.in(api.IgnoreParity) {
		return
	}
	if m.in(api.MarkParity) {
		m.layAll("\xff\x00" + string([]byte{b}))
	} else {
		m.layAll("\x00")
	}
}

func (m *model) good(b byte) {
	if m.in(api.Strip) {
		b %= 128
	} else if m.in(api.MarkParity) && b == 255 {
		m.layAll("\xff\xff")
		return
	}
	if m.in(api.Lower) && m.local(api.Extended) && b >= 'A' && b <= 'Z' {
		b += 32
	}
	if m.quotes {
		m.quotes = false
		m.lay(input.Entry{Byte: b})
		return
	}
	if m.in(api.FlowOut) {
		if m.is(b, api.Start) {
			m.SetStopped(false)
			return
		}
		if m.is(b, api.Stop) {
			m.SetStopped(true)
			return
		}
		if m.in(api.AnyStarts) {
			m.SetStopped(false)
		}
	}
	if m.local(api.Signals) {
		for n, place := range []int{api.Intr, api.Quit, api.Susp} {
			if m.is(b, place) {
				m.signal(n + 1)
				m.echo(b)
				return
			}
		}
	}
	if b == 13 {
		if m.in(api.IgnoreCR) {
			return
		}
		if m.in(api.CRtoNL) {
			b = 10
		}
	} else if b == 10 && m.in(api.NLtoCR) {
		b = 13
	}
	if !m.local(api.Lines) {
		m.lay(input.Entry{Byte: b})
		return
	}
	m.line(b)
}

func (m *model) line(b byte) {
	extended := m.local(api.Extended)
	if m.is(b, api.Erase) {
		m.rub(b, min(1, m.pending()), false)
	} else if m.is(b, api.Kill) {
		m.rub(b, m.pending(), true)
	} else if extended && m.is(b, api.Werase) {
		m.rub(b, m.word(), false)
	} else if extended && m.is(b, api.Next) {
		m.quotes = true
		if m.local(api.Echo) && m.local(api.EchoControl) {
			m.put("^\b")
		}
	} else if extended && m.local(api.Echo) && m.is(b, api.Reprint) {
		m.echo(b)
		m.put("\n")
		for i := len(m.queue) - m.pending(); i < len(m.queue); i++ {
			m.queue[i].Cells = m.echo(m.queue[i].Byte)
		}
	} else if m.is(b, api.Eof) {
		m.lay(input.Entry{EndOfFile: true, EndsLine: true})
	} else {
		m.lay(input.Entry{Byte: b, EndsLine: b == 10 || m.is(b, api.Eol)})
	}
}

func (m *model) word() int {
	line := m.queue[len(m.queue)-m.pending():]
	var text []byte
	for _, e := range line {
		text = append(text, e.Byte)
	}
	rest := strings.TrimRight(string(text), " \t")
	return len(line) - 1 - strings.LastIndexAny(rest, " \t")
}

func (m *model) rub(b byte, n int, kill bool) {
	gone := m.backward()[:n]
	m.queue = m.queue[:len(m.queue)-n]
	if !m.local(api.Echo) {
		return
	}
	if m.local(api.EchoErase) && (!kill || m.local(api.EchoKillErase)) {
		for _, e := range gone {
			if e.Byte == 9 {
				m.put(strings.Repeat("\b", e.Cells))
			} else {
				m.put(strings.Repeat("\b \b", e.Cells))
			}
		}
		return
	}
	if n > 0 || kill {
		m.echo(b)
	}
	if kill && m.local(api.EchoKill) {
		m.put("\n")
	}
}

// some is a text of n bytes, most of them of a kind that means something.
func some(r *rand.Rand, n int) string {
	const likely = "ab \tA\x7f\x7f\x15\x17\x16\x12\x04\n\r\x03\x1c\x1a\x11\x13\xff\x00\x83"
	var b strings.Builder
	for range n {
		if r.IntN(8) == 0 {
			b.WriteByte(byte(r.IntN(256)))
		} else {
			b.WriteByte(likely[r.IntN(len(likely))])
		}
	}
	return b.String()
}

// flipped changes flags, each with a chance of one in so many.
func flipped(r *rand.Rand, flags, all, oneIn int) int {
	for bit := 1; bit < all; bit <<= 1 {
		if r.IntN(oneIn) == 0 {
			flags ^= bit
		}
	}
	return flags
}

// changed are other settings, not too far from these.
func changed(r *rand.Rand, s api.Settings) api.Settings {
	s.In = flipped(r, s.In, api.AllIn, 6)
	s.Out = flipped(r, s.Out, api.AllOut, 6)
	s.Local = flipped(r, s.Local, api.AllLocal, 8)
	if r.IntN(3) == 0 {
		s.Chars[r.IntN(api.Places)] = int(some(r, 1)[0])
	}
	if r.IntN(2) == 0 {
		s.Chars[api.Min+r.IntN(2)] = r.IntN(5)
	}
	return s
}

// step makes one call of both, and tells what they answered.
func step(r *rand.Rand, x *Terminal, m *model) (string, string) {
	switch r.IntN(18) {
	case 0:
		s := changed(r, m.s)
		when := max(r.IntN(8)-4, api.Now)
		return fmt.Sprint(x.Set(s, when)), fmt.Sprint(m.set(s, when))
	case 1:
		s := strings.Repeat("w", r.IntN(40))
		x.Write(s)
		for i := range len(s) {
			m.put(s[i : i+1])
		}
	case 2, 3:
		n := r.IntN(300)
		sent, _ := x.Drain(n)
		return sent, m.Send(n)
	case 4:
		kind := r.IntN(3)
		s := some(r, r.IntN(4))
		x.Receive(kind, s)
		m.receive(kind, s)
	case 5:
		s := strings.Repeat(some(r, 1), r.IntN(200))
		x.Receive(api.Good, s)
		m.receive(api.Good, s)
	case 6, 7:
		x.Tick()
		m.tick()
	case 8, 9:
		// Most are small, so that parts of lines are read.
		n := r.IntN(1 << r.IntN(10))
		return fmt.Sprint(x.Read(n)), fmt.Sprint(m.read(n))
	case 10, 11:
		return fmt.Sprintf("%q %v %d", three(x.Take())...), fmt.Sprintf("%q %v %d", three(m.take())...)
	case 12:
		which := r.IntN(5)
		return fmt.Sprint(x.Flush(which)), fmt.Sprint(m.flush(which))
	case 13:
		action := r.IntN(6)
		return fmt.Sprint(x.Flow(action)), fmt.Sprint(m.flow(action))
	default:
		s := some(r, r.IntN(9))
		x.Receive(api.Good, s)
		m.receive(api.Good, s)
	}
	return "", ""
}

// three are what Take answers, as values to be printed.
func three(s string, ended bool, e api.Errno) []any { return []any{s, ended, e} }

func TestAgainstTheDocumentWordByWord(t *testing.T) {
	for seed := range uint64(400) {
		r := rand.New(rand.NewPCG(seed, 7))
		x := New()
		m := &model{s: x.Get()}
		for i := range 250 {
			told, want := step(r, x, m)
			status := api.Status{In: len(m.queue), Out: m.Len(), Column: m.Column(), Stopped: m.Stopped(), Held: m.held, Quoted: m.quotes}
			if told != want || x.Status() != status {
				t.Fatalf("P6 to P11: run %d, call %d: told %q, %+v; want %q, %+v", seed, i, told, x.Status(), want, status)
			}
			if !slices.Equal(x.in, m.queue) {
				t.Fatalf("P7, P8: run %d, call %d: entries %+v; want %+v", seed, i, x.in, m.queue)
			}
			if len(x.in) > api.MaxIn || x.out.Len() > api.MaxOut {
				t.Fatalf("P13: run %d, call %d: %+v", seed, i, x.Status())
			}
			if i%20 == 0 {
				if l := x.Signals(); !slices.Equal(l, m.signals) {
					t.Fatalf("P12: run %d, call %d: signals %v, want %v", seed, i, l, m.signals)
				}
				m.signals = nil
			}
		}
	}
}

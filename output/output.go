// Package output keeps what is to be sent over the line: the output queue, the urgent bytes that go ahead of it, and the column.
package output

import "clack/api"

// queue has bytes, the oldest first.
type queue []byte

// take removes the oldest bytes, up to n of them, and tells them.
func (q *queue) take(n int) string {
	n = min(n, len(*q))
	taken := string((*q)[:n])
	*q = (*q)[n:]
	return taken
}

// Output is all that is kept of what goes out. Its zero value is empty, at column 0, and not stopped.
type Output struct {
	urgent  queue
	waiting queue
	column  int
	stopped bool
}

// Len tells how many bytes are in the output queue; urgent ones are not of it.
func (o *Output) Len() int { return len(o.waiting) }

// Column tells the column.
func (o *Output) Column() int { return o.column }

// Stopped tells whether the output queue is kept back.
func (o *Output) Stopped() bool { return o.stopped }

// SetStopped keeps the output queue back, or lets it go on.
func (o *Output) SetStopped(stopped bool) { o.stopped = stopped }

// Clear empties the output queue. Urgent bytes stay, and so does the column: what was sent is not taken back.
func (o *Output) Clear() { o.waiting = nil }

// Urge makes bytes urgent, behind those that are so already.
func (o *Output) Urge(urgent ...byte) { o.urgent = append(o.urgent, urgent...) }

// Send takes up to n bytes off, n not being below 0: urgent ones go even while it is stopped.
func (o *Output) Send(n int) string {
	sent := o.urgent.take(n)
	if !o.stopped {
		sent += o.waiting.take(n - len(sent))
	}
	return sent
}

// Put puts bytes out together by the flags of what goes out. It tells false, and leaves everything as it was, if there is no room for all of them.
func (o *Output) Put(out int, together ...byte) bool {
	made, column := render(out, o.column, together...)
	if len(o.waiting)+len(made) > api.MaxOut {
		return false
	}
	o.waiting = append(o.waiting, made...)
	o.column = column
	return true
}

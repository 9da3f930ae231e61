// Package input keeps what came in and waits to be read.
package input

import "slices"

// Entry is one thing of the input queue: a byte, or the end of a file, which has no byte.
type Entry struct {
	Byte      byte
	EndOfFile bool
	EndsLine  bool
	Cells     int // by how many columns its echo moved the column
}

// IsGap tells whether the entry stands between words.
func (e Entry) IsGap() bool { return e.Byte == ' ' || e.Byte == '\t' }

// Queue has entries, the oldest first. Its zero value is empty.
type Queue []Entry

// Clear empties the queue.
func (q *Queue) Clear() { *q = nil }

// Add puts an entry behind all others.
func (q *Queue) Add(e Entry) { *q = append(*q, e) }

// Pending tells the pending line: the queue's own entries, so that their cells can be changed.
func (q Queue) Pending() Queue {
	n := len(q)
	for n > 0 && !q[n-1].EndsLine {
		n--
	}
	return q[n:]
}

// LastWord tells how many entries at the end of the pending line are its last word and the gap behind that.
func (q Queue) LastWord() int {
	line := q.Pending()
	n := len(line)
	for n > 0 && line[n-1].IsGap() {
		n--
	}
	for n > 0 && !line[n-1].IsGap() {
		n--
	}
	return len(line) - n
}

// RubOut removes the last n entries, of which there must be so many, and tells them; they are good until the next Add.
func (q *Queue) RubOut(n int) Queue {
	kept := len(*q) - n
	gone := (*q)[kept:]
	*q = (*q)[:kept]
	return gone
}

// FirstLine tells how many entries the first line has, up to the one that ends it; 0, if none does.
func (q Queue) FirstLine() int {
	return 1 + slices.IndexFunc(q, func(e Entry) bool { return e.EndsLine })
}

// TakeLine removes the first line, or of a longer one the first n bytes, and tells the bytes. An end of a file goes with the last byte of its line: left behind it would be taken for an empty line.
func (q *Queue) TakeLine(n int) string {
	line := (*q)[:q.FirstLine()]
	if n < len(line) && line[n].EndOfFile {
		n++
	}
	return q.Take(min(n, len(line)))
}

// Take removes the first n entries, or all if there are fewer, and tells the bytes of those that have one.
func (q *Queue) Take(n int) string {
	var taken []byte
	n = min(n, len(*q))
	for _, e := range (*q)[:n] {
		if !e.EndOfFile {
			taken = append(taken, e.Byte)
		}
	}
	*q = (*q)[n:]
	return string(taken)
}

// ForgetLines leaves of every entry its byte alone. Ends of a file have none, so they vanish.
func (q *Queue) ForgetLines() {
	var kept Queue
	for _, e := range *q {
		if !e.EndOfFile {
			kept = append(kept, Entry{Byte: e.Byte})
		}
	}
	*q = kept
}

// Package input keeps what came in and waits to be read.
package input

// Entry is one thing of the input queue: a byte, or the end of a file, which has no byte.
type Entry struct {
	Byte      byte
	EndOfFile bool
	EndsLine  bool
	Cells     int // by how many columns its echo moved the column
}

// Queue has entries, the oldest first. Its zero value is empty.
type Queue []Entry

// Clear empties the queue.
func (q *Queue) Clear() { *q = nil }

// ForgetLines leaves of every entry its byte alone. Ends of a file have none, so they vanish.
func (q *Queue) ForgetLines() {
	var kept Queue
	for _, e := range *q {
		if !e.EndOfFile {
			kept = append(kept, Entry{Byte: e.Byte})
		}
	}
	*q = kept
}

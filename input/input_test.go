package input

import (
	"slices"
	"testing"
)

// line is a queue of bytes, of which each '|' stands for a line's end.
func line(s string) Queue {
	var q Queue
	for i := range len(s) {
		q.Add(Entry{Byte: s[i], EndsLine: s[i] == '|', Cells: i + 1})
	}
	return q
}

func TestAddPutsBehind(t *testing.T) {
	var q Queue
	q.Add(Entry{Byte: 'a', Cells: 1})
	q.Add(Entry{EndOfFile: true, EndsLine: true})
	if want := (Queue{{Byte: 'a', Cells: 1}, {EndOfFile: true, EndsLine: true}}); !slices.Equal(q, want) {
		t.Errorf("P7: the entries are %+v", q)
	}
}

func TestPending(t *testing.T) {
	for _, c := range []struct {
		all string
		n   int
	}{{"", 0}, {"a", 1}, {"ab", 2}, {"|", 0}, {"ab|", 0}, {"|a", 1}, {"ab|cd|efg", 3}, {"ab||", 0}} {
		q := line(c.all)
		if got, want := q.Pending(), q[len(q)-c.n:]; !slices.Equal(got, want) {
			t.Errorf("P8: of %q there is pending %+v, want %+v", c.all, got, want)
		}
	}
	if got := (Queue{{Byte: 'a'}, {EndOfFile: true, EndsLine: true}, {Byte: 'b'}}).Pending(); len(got) != 1 || got[0].Byte != 'b' {
		t.Errorf("P8: behind an end of a file there is pending %+v", got)
	}
}

func TestPendingIsTheQueuesOwn(t *testing.T) {
	q := line("a|bc")
	q.Pending()[1].Cells = 9
	if q[3].Cells != 9 {
		t.Errorf("P8: new cells are lost: %+v", q)
	}
}

func TestLastWord(t *testing.T) {
	for _, c := range []struct {
		all string
		n   int
	}{
		{"", 0}, {"ab", 2}, {"ab cd", 2}, {"ab cd ", 3}, {"ab cd\t \t", 5}, {"ab\tcd", 2}, {"  ", 2}, {"\t", 1},
		{" a", 1}, {"ab|", 0}, {"ab|c", 1}, {"ab| ", 1}, {"a b|c d ", 2}, {"a-b.c", 5}, {"a\x00\n\v\xa0b", 6},
	} {
		if n := line(c.all).LastWord(); n != c.n {
			t.Errorf("P8: the last word of %q has %d entries, want %d", c.all, n, c.n)
		}
	}
}

func TestRubOut(t *testing.T) {
	all := line("ab|cd")
	for n := range len(all) + 1 {
		q := slices.Clone(all)
		kept := len(all) - n
		if gone := q.RubOut(n); !slices.Equal(gone, all[kept:]) || !slices.Equal(q, all[:kept]) {
			t.Errorf("P8: of the last %d there are gone %+v, kept %+v", n, gone, q)
		}
		q.Add(Entry{Byte: 'z'})
		if len(q) != kept+1 || q[kept].Byte != 'z' || !slices.Equal(q[:kept], all[:kept]) {
			t.Errorf("P8: behind %d rubbed out: %+v", n, q)
		}
	}
}

func TestForgetLines(t *testing.T) {
	for _, c := range []struct{ before, after Queue }{
		{nil, nil},
		{Queue{{Byte: 'a', Cells: 1}}, Queue{{Byte: 'a'}}},
		{Queue{{EndOfFile: true, EndsLine: true}}, nil},
		{Queue{{Byte: '\n', EndsLine: true}, {Byte: 3, Cells: 2}}, Queue{{Byte: '\n'}, {Byte: 3}}},
		{
			Queue{{EndOfFile: true, EndsLine: true}, {Byte: 0, Cells: 2}, {EndOfFile: true, EndsLine: true}, {EndOfFile: true, EndsLine: true}, {Byte: '\t', Cells: 8}},
			Queue{{Byte: 0}, {Byte: '\t'}},
		},
	} {
		q := slices.Clone(c.before)
		q.ForgetLines()
		if !slices.Equal(q, c.after) {
			t.Errorf("P4: of %+v there is left %+v, want %+v", c.before, q, c.after)
		}
	}
}

func TestClear(t *testing.T) {
	q := Queue{{Byte: 'a'}, {EndOfFile: true, EndsLine: true}}
	q.Clear()
	q.Clear()
	if len(q) != 0 {
		t.Errorf("P4: emptied, it has %+v", q)
	}
}

// file is a queue of bytes, of which each '|' stands for a line's end, and each '$' for an end of a file.
func file(s string) Queue {
	q := line(s)
	for i, e := range q {
		if e.Byte == '$' {
			q[i] = Entry{EndOfFile: true, EndsLine: true}
		}
	}
	return q
}

func TestFirstLine(t *testing.T) {
	for _, c := range []struct {
		all string
		n   int
	}{{"", 0}, {"ab", 0}, {"|", 1}, {"$", 1}, {"ab|", 3}, {"ab|c|", 3}, {"ab$c|", 3}, {"||", 1}, {"$ab|", 1}, {"abc|d", 4}} {
		if n := file(c.all).FirstLine(); n != c.n {
			t.Errorf("P10: the first line of %q has %d entries, want %d", c.all, n, c.n)
		}
	}
}

func TestTakeLine(t *testing.T) {
	for _, c := range []struct {
		all         string
		n           int
		taken, left string
	}{
		{"", 1, "", ""}, {"ab", 5, "", "ab"},
		{"ab|cd|", 9, "ab|", "cd|"}, {"ab|cd|", 3, "ab|", "cd|"}, {"ab|cd|", 2, "ab", "|cd|"}, {"ab|cd|", 1, "a", "b|cd|"},
		{"|ab|", 1, "|", "ab|"}, {"|ab|", 9, "|", "ab|"}, {"ab|c", 9, "ab|", "c"},
		{"$", 1, "", ""}, {"$ab|", 9, "", "ab|"}, {"$$", 1, "", "$"}, {"$|", 1, "", "|"},
		{"ab$cd|", 9, "ab", "cd|"}, {"ab$cd|", 3, "ab", "cd|"}, {"ab$cd|", 2, "ab", "cd|"}, {"ab$cd|", 1, "a", "b$cd|"}, {"ab$$", 2, "ab", "$"},
		{"ab|$", 3, "ab|", "$"}, {"ab|$", 2, "ab", "|$"}, {"ab|$", 4, "ab|", "$"},
	} {
		all := file(c.all)
		q := slices.Clone(all)
		if taken := q.TakeLine(c.n); taken != c.taken || !slices.Equal(q, all[len(all)-len(c.left):]) {
			t.Errorf("P10: TakeLine(%d) of %q is %q, left %+v; want %q, %q", c.n, c.all, taken, q, c.taken, c.left)
		}
	}
}

func TestTake(t *testing.T) {
	all := line("abc")
	for n, want := range []string{"", "a", "ab", "abc", "abc", "abc"} {
		q := slices.Clone(all)
		if taken := q.Take(n); taken != want || !slices.Equal(q, all[len(want):]) {
			t.Errorf("P10: Take(%d) is %q, left %+v", n, taken, q)
		}
		q.Add(Entry{Byte: 'z'})
		if len(q) != 4-len(want) || q[len(q)-1].Byte != 'z' {
			t.Errorf("P10: behind Take(%d): %+v", n, q)
		}
	}
}

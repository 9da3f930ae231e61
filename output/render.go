package output

import (
	"bytes"

	"clack/api"
)

// tabWidth is how far the columns that a TAB goes to are apart.
const tabWidth = 8

// render tells what the bytes become, one after the other from this column on, and the column behind them.
func render(flags, column int, together ...byte) ([]byte, int) {
	var made []byte
	for _, b := range together {
		for _, c := range become(flags, column, b) {
			made = append(made, c)
			column = move(flags, column, c)
		}
	}
	return made, column
}

// become tells the bytes that stand for b at this column.
func become(flags, column int, b byte) []byte {
	if !has(flags, api.Process) {
		return []byte{b}
	}
	switch {
	case isSmall(b) && has(flags, api.Upper):
		return []byte{b - 'a' + 'A'}
	case b == '\n' && has(flags, api.NLtoCRNL):
		return []byte{'\r', '\n'}
	case b == '\r' && has(flags, api.NoCRAtZero) && column == 0:
		return nil
	case b == '\r' && has(flags, api.CRtoNLOut):
		return []byte{'\n'}
	case b == '\t' && has(flags, api.Tabs):
		return bytes.Repeat([]byte{' '}, toNextTab(column))
	}
	return []byte{b}
}

// move tells the column behind a byte that goes into the output queue at this column.
func move(flags, column int, b byte) int {
	switch {
	case b == '\b':
		return max(column-1, 0)
	case b == '\r':
		return 0
	case b == '\t':
		return column + toNextTab(column)
	case b == '\n' && has(flags, api.Process) && has(flags, api.NLReturns):
		return 0
	case isControl(b):
		return column
	}
	return column + 1
}

// toNextTab tells how far the next column is to which a TAB goes: 1 to 8.
func toNextTab(column int) int { return tabWidth - column%tabWidth }

// has tells whether a flag is set.
func has(flags, flag int) bool { return flags&flag != 0 }

// isSmall tells whether b is a small letter; only those of ASCII count, since a byte above 127 has no case.
func isSmall(b byte) bool { return 'a' <= b && b <= 'z' }

// isControl tells whether b is a control byte, all others being printed.
func isControl(b byte) bool { return b < 32 || b == 127 }

package output

import (
	"bytes"

	"clack/api"
	"clack/ascii"
	"clack/flags"
)

// tabWidth is how far the columns that a TAB goes to are apart.
const tabWidth = 8

// render tells what the bytes become, one after the other from this column on, and the column behind them.
func render(out, column int, together ...byte) ([]byte, int) {
	var made []byte
	for _, b := range together {
		for _, c := range become(out, column, b) {
			made = append(made, c)
			column = move(out, column, c)
		}
	}
	return made, column
}

// become tells the bytes that stand for b at this column.
func become(out, column int, b byte) []byte {
	if !flags.Has(out, api.Process) {
		return []byte{b}
	}
	if flags.Has(out, api.Upper) {
		b = ascii.ToGreat(b)
	}
	switch {
	case b == '\n' && flags.Has(out, api.NLtoCRNL):
		return []byte{'\r', '\n'}
	case b == '\r' && flags.Has(out, api.NoCRAtZero) && column == 0:
		return nil
	case b == '\r' && flags.Has(out, api.CRtoNLOut):
		return []byte{'\n'}
	case b == '\t' && flags.Has(out, api.Tabs):
		return bytes.Repeat([]byte{' '}, toNextTab(column))
	}
	return []byte{b}
}

// move tells the column behind a byte that goes into the output queue at this column.
func move(out, column int, b byte) int {
	switch {
	case b == '\b':
		return max(column-1, 0)
	case b == '\r':
		return 0
	case b == '\t':
		return column + toNextTab(column)
	case b == '\n' && flags.Has(out, api.Process|api.NLReturns):
		return 0
	case ascii.IsControl(b):
		return column
	}
	return column + 1
}

// toNextTab tells how far the next column is to which a TAB goes: 1 to 8.
func toNextTab(column int) int { return tabWidth - column%tabWidth }

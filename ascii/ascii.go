// Package ascii says of what kind a byte is. Bytes above 127 are printed, and have no case.
package ascii

// IsControl tells whether b is a control byte, all others being printed.
func IsControl(b byte) bool { return b < 32 || b == 127 }

// ToGreat makes a small letter a great one, and leaves other bytes as they are.
func ToGreat(b byte) byte {
	if 'a' <= b && b <= 'z' {
		return b - 'a' + 'A'
	}
	return b
}

// ToSmall makes a great letter a small one, and leaves other bytes as they are.
func ToSmall(b byte) byte {
	if 'A' <= b && b <= 'Z' {
		return b - 'A' + 'a'
	}
	return b
}

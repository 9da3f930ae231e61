// Package flags asks which flags are set.
package flags

// Has tells whether all the wanted flags are set among these; with none wanted it is true.
func Has(these, wanted int) bool { return these&wanted == wanted }

package clack_test

import (
	"fmt"

	"clack/api"
	"clack/clack"
)

// The use that README.md shows.
func ExampleTerminal() {
	t := clack.New()
	s := t.Get()
	s.Out |= api.Tabs
	fmt.Println(t.Set(s, api.Now))

	fmt.Println(t.Write("a\tb\n"))
	fmt.Printf("%+v\n", t.Status())
	sent, e := t.Drain(99)
	fmt.Printf("%q %d\n", sent, e)
	sent, e = t.Drain(-1)
	fmt.Printf("%q %d\n", sent, e)
	// Output:
	// 0
	// 4
	// {In:0 Out:11 Column:0 Stopped:false Held:false Quoted:false}
	// "a       b\r\n" 0
	// "" 2
}

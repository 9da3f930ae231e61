package clack_test

import (
	"fmt"

	"clack/api"
	"clack/clack"
)

// What README.md shows of what goes out.
func ExampleTerminal_Write() {
	t := clack.New()
	s := t.Get()
	s.Out |= api.Tabs
	fmt.Println(t.Set(s, api.Now))

	fmt.Println(t.Write("a\tb\n"))
	fmt.Printf("%+v\n", t.Status())
	sent, e := t.Drain(99)
	fmt.Printf("%q %d\n", sent, e)
	sent, e = t.Drain(-1)
	fmt.Printf("%q %d\n", sent, e)
	// Output:
	// 0
	// 4
	// {In:0 Out:11 Column:0 Stopped:false Held:false Quoted:false}
	// "a       b\r\n" 0
	// "" 2
}

// What README.md shows of what comes in.
func ExampleTerminal_Receive() {
	t := clack.New()
	fmt.Println(t.Receive(api.Good, "ab\x7fc\r"))
	fmt.Printf("%+v\n", t.Status())
	sent, _ := t.Drain(99)
	fmt.Printf("%q\n", sent)

	t.Receive(api.Good, "x\x13")
	sent, _ = t.Drain(99)
	fmt.Printf("%q\n", sent)
	t.Receive(api.Good, "\x11")
	sent, _ = t.Drain(99)
	fmt.Printf("%q\n", sent)

	t.Receive(api.Good, "\x03")
	fmt.Println(t.Signals(), t.Signals())
	sent, _ = t.Drain(99)
	fmt.Printf("%q\n", sent)
	fmt.Println(t.Receive(3, "a"))
	// Output:
	// 0
	// {In:3 Out:8 Column:0 Stopped:false Held:false Quoted:false}
	// "ab\b \bc\r\n"
	// ""
	// "x"
	// [1] []
	// "^C"
	// 1
}

// What README.md shows of reading.
func ExampleTerminal_Read() {
	t := clack.New()
	show := func(s string, ended bool, e api.Errno) { fmt.Printf("%q %v %d\n", s, ended, e) }
	show(t.Take())
	fmt.Println(t.Read(9))
	t.Receive(api.Good, "ab")
	show(t.Take())
	t.Receive(api.Good, "c\rd\x04")
	show(t.Take())
	fmt.Println(t.Read(9))
	show(t.Take())
	fmt.Println(t.Read(0))

	s := t.Get()
	s.Local &^= api.Lines
	s.Chars[api.Min], s.Chars[api.Time] = 3, 2
	t.Set(s, api.Now)
	t.Read(9)
	t.Receive(api.Good, "x")
	t.Tick()
	show(t.Take())
	t.Tick()
	show(t.Take())
	// Output:
	// "" false 4
	// 0
	// "" false 0
	// "abc\n" true 0
	// 0
	// "d" true 0
	// 2
	// "" false 0
	// "x" true 0
}

// What README.md shows of flush and flow.
func ExampleTerminal_Flow() {
	t := clack.New()
	t.Receive(api.Good, "ab\rc")
	fmt.Println(t.Flow(api.Hold))
	show := func(sent string, e api.Errno) { fmt.Printf("%q %d\n", sent, e) }
	show(t.Drain(99))
	t.Flow(api.SendStop)
	show(t.Drain(99))
	t.Flow(api.Go)
	show(t.Drain(3))

	fmt.Println(t.Flush(api.Output))
	fmt.Printf("%+v\n", t.Status())
	t.Flush(api.Input)
	fmt.Printf("%+v\n", t.Status())
	fmt.Println(t.Flush(0), t.Flow(5))
	// Output:
	// 0
	// "" 0
	// "\x13" 0
	// "ab\r" 0
	// 0
	// {In:4 Out:0 Column:1 Stopped:false Held:false Quoted:false}
	// {In:0 Out:0 Column:1 Stopped:false Held:false Quoted:false}
	// 1 1
}

package world_test

import (
	"fmt"
	"strings"
	"testing"

	"callbox/api"
	"callbox/world"
)

// wantTold plays lines, each of which stands ahead of what it is to tell, with an arrow between; blanks ahead of a line, and empty lines, are none of it.
func wantTold(t *testing.T, pairs string) {
	t.Helper()
	var script, want strings.Builder
	for line := range strings.Lines(pairs) {
		line = strings.TrimLeft(strings.TrimSuffix(line, "\n"), " \t")
		if line == "" {
			continue
		}
		played, told, is := strings.Cut(line, " => ")
		if !is {
			t.Fatalf("%q has no arrow", line)
		}
		script.WriteString(played + "\n")
		want.WriteString(told + "\n")
	}
	wantRun(t, script.String(), want.String())
}

// wantRun: a script is told just so.
func wantRun(t *testing.T, script, want string) {
	t.Helper()
	got, e, at := world.Run(script)
	if got == want && e == api.OK && at == 0 {
		return
	}
	t.Errorf("Run(%.200q): %d, %d", script, e, at)
	lines, had, should := strings.Split(script, "\n"), strings.Split(got, "\n"), strings.Split(want, "\n")
	for i := range max(len(had), len(should)) {
		if a, b := lineOf(had, i), lineOf(should, i); a != b {
			t.Errorf("line %d, %.200q, tells %.200q, not %.200q", i+1, lineOf(lines, i), a, b)
			return
		}
	}
}

func lineOf(lines []string, i int) string {
	if i < len(lines) {
		return lines[i]
	}
	return "(no line)"
}

// wantRefused: a script is refused, at a line.
func wantRefused(t *testing.T, script string, e api.Errno, at int) {
	t.Helper()
	if s, got, line := world.Run(script); s != "" || got != e || line != at {
		t.Errorf("Run(%.200q) = %.200q, %d, %d, not %d, %d", script, s, got, line, e, at)
	}
}

// TestExamples are the chapter's.
func TestExamples(t *testing.T) {
	wantTold(t, `
		| struct point { int x; int y; }; => ok
		compile => types 9 names 1 programs 0
		value point {x=1,y=-1} => bytes 00000001ffffffff
	`)
	wantTold(t, `
		server 111 2 4 800 100 => ok
		server 111 2 4 800 100 => there
		mapper 111 => ok
		mapper 111 => error 181
		client ann 7 1 4 2 8 4 => ok
		ask ann 111 set 7 2 17 2000 => call 1
		air => flying 1 131772>65647:104
		deliver 0 => server 111
		work 111 => done
		deliver 0 => client ann 1
		outcomes ann => outcomes 1 1:success:00000001
	`)
	wantTold(t, `
		deliver 0 => error 130
		call bob 1 1 1 1 => none
		tick => time 1
	`)
	wantRefused(t, "foo\n", api.ErrWorldLine, 1)
}

// TestSource: the lines of a source stand one behind the other, each with a line feed, and no more than the one blank ahead of them is left out.
func TestSource(t *testing.T) {
	wantTold(t, `
		compile => types 8 names 0 programs 0
		| const => ok
		| A = 1; /* over => ok
		| => ok
		|   lines */ const B = A1; => ok
		compile => error 40 at 43
	`)
	wantTold(t, `
		| => ok
		| => ok
		|  struct s { t x; }; => ok
		compile => error 51 at 14
		| typedef int t; => ok
		compile => error 51 at 14
	`)
	wantTold(t, `
		| typedef int a; => ok
		compile => types 8 names 1 programs 0
		| typedef int b<2>; const N = 2; => ok
		value b [1,2] => none
		compile => types 9 names 3 programs 0
		value b [1,2] => bytes 000000020000000100000002
		value N 2 => none
		| program P { version V { void A(void) = 1; } = 1; version W { a A(b) = 1; } = 2; } = 1; => ok
		| program Q { version V { void A(void) = 1; } = 1; } = 2; => ok
		compile => types 9 names 3 programs 2
	`)
	wantRun(t, "| a\xffb\ncompile\n", "ok\nerror 30 at 1\n")
	wantRun(t, "| a\r\x00\ncompile\n", "ok\nerror 30 at 2\n")
	wantRun(t, "| typedef opaque h\r<2>; \t\ncompile\nvalue h #00\n", "ok\ntypes 9 names 1 programs 0\nbytes 0000000100000000\n")
	wantRun(t, "|\n| \x00\ncompile\n", "ok\nok\nerror 30 at 1\n")
}

// TestRefusedSourceLeavesAll: a source that is refused leaves the schema, the arguments and the table.
func TestRefusedSourceLeavesAll(t *testing.T) {
	wantTold(t, `
		| typedef int a; program P { version V { a A(a) = 1; } = 1; } = 1; => ok
		compile => types 8 names 1 programs 1
		table 1 1 1 0 => ok
		arg a 5 => ok
		| typedef int a; => ok
		compile => error 50 at 77
		value a 7 => bytes 00000007
		stub => lines 26
		row 0 1 0 a 6 => ok
		arg a 5 => ok
		compile => error 50 at 77
		server 1 1 1 64 64 => ok
		offer 1 => ok
		client ann 1 1 1 1 1 1 => ok
		call ann 1 1 1 1 => call 1
		deliver 0 => server 1
		work 1 => done
		log 1 => log 1 131772:1:1:0:00000006
	`)
}

// TestCompiled: what compiles takes the arguments and the table away.
func TestCompiled(t *testing.T) {
	wantTold(t, `
		| program P { version V { int A(int) = 1; } = 1; } = 1; => ok
		compile => types 8 names 0 programs 1
		table 1 1 1 0 => ok
		arg 1 5 => ok
		server 1 1 1 64 64 => ok
		compile => types 8 names 0 programs 1
		offer 1 => none
		row 0 1 0 1 6 => none
		client ann 1 1 4 1 1 1 => ok
		call ann 1 1 1 1 => call 1
		arg 1 5 => ok
		call ann 1 1 1 1 => call 2
		air => flying 2 131772>65537:88 131772>65537:92
	`)
}

// TestStub: how many lines a code's source has.
func TestStub(t *testing.T) {
	wantTold(t, `
		stub => none
		| struct s { t x; }; => ok
		compile => error 51 at 11
		stub => none
	`)
	wantTold(t, `
		compile => types 8 names 0 programs 0
		stub => lines 25
		| const N = 4294967295; enum e { A = -2147483648, B = 3 }; => ok
		stub => lines 25
		compile => types 9 names 4 programs 0
		stub => lines 32
		| typedef e f; struct s { e a; int b; struct { e a; } c; }; => ok
		compile => types 11 names 6 programs 0
		stub => lines 44
	`)
}

const shapes = `
		| struct point { int x; int y; }; union shape switch (bool b) { case TRUE: point p; default: void; }; => ok
		| typedef shape row<5>; typedef string name<4>; typedef opaque two[2]; enum e { ONE = 1, N = -7 }; => ok
		| union u switch (e k) { case ONE: void; }; const FIVE = 5; struct cell { hyper n; cell *next; }; => ok
		compile => types 17 names 11 programs 0
`

// TestValue: a type by its name and by its place; what the layers 7 and 9 say of a value.
func TestValue(t *testing.T) {
	wantTold(t, shapes+`
		value 0 void => bytes -
		value 1 -1 => bytes ffffffff
		value 2 4294967295 => bytes ffffffff
		value 3 -9223372036854775808 => bytes 8000000000000000
		value 4 18446744073709551615 => bytes ffffffffffffffff
		value 5 0x1p+0 => bytes 3f800000
		value 6 -0x0p+0 => bytes 8000000000000000
		value 7 TRUE => bytes 00000001
		value 8 {x=1,y=-1} => bytes 00000001ffffffff
		value point {x=1,y=-1} => bytes 00000001ffffffff
		value shape (FALSE) => bytes 00000000
		value row [(FALSE),(TRUE:p={x=2,y=3})] => bytes 0000000200000000000000010000000200000003
		value name "a\"\x00" => bytes 0000000361220000
		value two #00ff => bytes 00ff0000
		value e N => bytes fffffff9
		value u (ONE) => bytes 00000001
		value u (N) => error 72 at 1
		value cell {n=1,next=*{n=2,next=none}} => bytes 000000000000000100000001000000000000000200000000
		value cell {n=1,next=none} => bytes 000000000000000100000000
		value 16 none => bytes 00000000
		value 17 none => none
		value 1099511627776 5 => none
		value nobody x => none
		value FIVE 5 => none
		value ONE 1 => none
		value TRUE 1 => none
		value point {x=1} => error 70 at 4
		value point {x=2147483648,y=0} => error 72 at 3
		value point  {x=1,y=1} => error 70 at 0
		value two #0001ff => error 72 at 0
	`)
	wantRun(t, "compile\nvalue 1 5 \nvalue 1  \nvalue 1 \r\n", "types 8 names 0 programs 0\nerror 70 at 1\nerror 70 at 0\nerror 70 at 0\n")
	wantTold(t, `
		value 1 5 => none
		value point 5 => none
		bytes 1 00000001 => none
		arg 1 5 => none
	`)
}

// TestLongValue: texts and bytes at their bounds.
func TestLongValue(t *testing.T) {
	begin := "| typedef string s<>; typedef opaque o<>; typedef int l<>; struct cell { cell *next; };\ncompile\n"
	told := "ok\ntypes 13 names 4 programs 0\n"
	ints := func(n int) string { return "[" + strings.Repeat("7,", n-1) + "7]" }
	cells := func(n int) string {
		return strings.Repeat("{next=*", n-1) + "{next=none}" + strings.Repeat("}", n-1)
	}
	for _, c := range []struct{ line, want string }{
		{`value s "` + strings.Repeat("a", 996) + `"`, "bytes 000003e4" + strings.Repeat("61", 996)},
		{`value s "` + strings.Repeat("a", 997) + `"`, "error 63 at 0"},
		{"value l " + ints(249), "bytes 000000f9" + strings.Repeat("00000007", 249)},
		{"value l " + ints(250), "error 63 at 0"},
		{"value cell " + cells(32), "bytes " + strings.Repeat("00000001", 31) + "00000000"},
		{"value cell " + cells(33), "error 62 at 0"},
		{`value s "` + strings.Repeat("a", 7998) + `"`, "error 63 at 0"},
		{`value s "` + strings.Repeat("a", 7999) + `"`, "error 71 at 8000"},
		{"bytes s 000003e4" + strings.Repeat("61", 996), `value "` + strings.Repeat("a", 996) + `"`},
		{"bytes s 000003e5" + strings.Repeat("61", 997), "error 23"},
		{"bytes 1 " + strings.Repeat("00", 1000), "error 21"},
		{"bytes 1 " + strings.Repeat("00", 1001), "error 23"},
		{"bytes cell " + strings.Repeat("00000001", 31) + "00000000", "value " + cells(32)},
		{"bytes cell " + strings.Repeat("00000001", 32) + "00000000", "error 94"},
		{"arg cell " + cells(33), "error 62 at 0"},
		{`arg s "` + strings.Repeat("a", 997) + `"`, "error 63 at 0"},
	} {
		wantRun(t, begin+c.line+"\n", told+c.want+"\n")
	}
}

// TestBytes: what the layers 9 and 7 say of bytes.
func TestBytes(t *testing.T) {
	wantTold(t, shapes+`
		bytes 0 - => value void
		bytes 0 00000000 => error 21
		bytes 1 ffffffff => value -1
		bytes 4 ffffffffffffffff => value 18446744073709551615
		bytes 5 7fc00000 => value nan
		bytes 5 7fc00001 => error 26
		bytes 7 00000001 => value TRUE
		bytes 7 00000002 => error 25
		bytes point 00000001ffffffff => value {x=1,y=-1}
		bytes 8 00000001ffffffff => value {x=1,y=-1}
		bytes point 00000001ffffff => error 20
		bytes point - => error 20
		bytes point 00000001ffffffff00 => error 21
		bytes name 0000000361220000 => value "a\"\x00"
		bytes name 0000000361220001 => error 24
		bytes name 0000000561220001 => error 23
		bytes e 00000002 => error 93
		bytes e fffffff9 => value N
		bytes u fffffff9 => error 93
		bytes shape 00000000 => value (FALSE)
		bytes 16 00000001 => error 20
		bytes 16 00000000 => value none
		bytes 17 00000000 => none
		bytes 1099511627776 00000000 => none
		bytes nobody - => none
		bytes FIVE 00000005 => none
	`)
	long := strings.Repeat("a", 32)
	wantRun(t, "| struct s { int "+long+"; }; typedef s l<>;\ncompile\nbytes l 000000d8"+strings.Repeat("00000000", 216)+"\nbytes l 000000d9"+strings.Repeat("00000000", 217)+"\n",
		"ok\ntypes 10 names 2 programs 0\nvalue ["+strings.Repeat("{"+long+"=0},", 215)+"{"+long+"=0}]\nerror 71\n")
}

// TestFuel: the most that values of these lengths may cost is not too much.
func TestFuel(t *testing.T) {
	var source strings.Builder
	source.WriteString("| typedef int a1[1]; struct s1 { int x; }; => ok\n")
	for i := 2; i <= 62; i++ {
		if i <= 31 {
			fmt.Fprintf(&source, "| typedef a%d a%d[1]; => ok\n", i-1, i)
		}
		fmt.Fprintf(&source, "| struct s%d { s%d x; }; => ok\n", i, i-1)
	}
	source.WriteString("| typedef s62 most[250]; typedef a31 some[100]; => ok\ncompile => types 103 names 95 programs 0\n")
	one := strings.Repeat("[", 31) + "1" + strings.Repeat("]", 31)
	some := "[" + strings.Repeat(one+",", 99) + one + "]"
	// 250 times 62 structs have 46000 operations, and far more text than there may be.
	wantTold(t, source.String()+"bytes most "+strings.Repeat("00000001", 250)+" => error 71\n")
	wantTold(t, source.String()+"bytes some "+strings.Repeat("00000001", 100)+" => value "+some+"\n")
	wantTold(t, source.String()+"value some "+some+" => bytes "+strings.Repeat("00000001", 100)+"\n")
	wantTold(t, source.String()+"arg some "+some+" => ok\nclient ann 7 1 4 2 8 4 => ok\ncall ann 1 1 1 1 => call 1\nair => flying 1 131772>65537:488\n")
}

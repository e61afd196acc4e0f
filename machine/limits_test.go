package machine_test

import (
	"fmt"
	"math"
	"slices"
	"strings"
	"testing"

	"callbox/api"
	"callbox/codec"
	"callbox/engine"
	"callbox/machine"
	"callbox/schema"
	"callbox/value"
)

// kinds has arguments and results of all kinds.
const kinds = `
struct point { int x; int y; };
union shape switch (bool b) { case TRUE: point p; default: void; };
struct cell { unsigned hyper n; cell *next; };
enum e { A = 5, B = -1, C = 0 };
typedef opaque two[2];
typedef string name<>;
typedef opaque bytes<>;
typedef int ints<>;
typedef float three[3];
union byenum switch (e d) { case A: double f; case B: void; };
program P { version V {
	name SAY(name) = 1;
	shape MOVE(shape, point) = 2;
	cell PUSH(cell) = 3;
	e TURN(e, bool, two) = 4;
	ints SUM(ints, ints, bytes, unsigned int) = 5;
	three DRAW(float, double) = 6;
	byenum PICK(byenum) = 7;
	bytes GET(void) = 8;
	void PUT(bytes, bytes) = 9;
} = 1; } = 1;`

// edges are numbers at, and beside, the bounds of states, and far off.
var edges = []int{0, 1, 2, 63, 64, 65, -1, -2, 200, math.MaxInt32, 1 << 32, 1<<32 + 1, math.MaxInt, math.MinInt, math.MinInt + 1}

func wantTable(t *testing.T, what string, x api.Schema, prog, vers int, y api.Table, may bool) {
	t.Helper()
	if !may {
		wantRefused(t, what, x, prog, vers, y, api.ErrMachineTable)
		return
	}
	if m, e := machine.New(x, prog, vers, y); m == nil || e != api.OK || m.State() != y.Start {
		t.Errorf("%s: New: %d", what, e)
	}
	if _, a, _ := machine.Step(x, prog, vers, y, y.Start, 0, ""); a != api.Success {
		t.Errorf("%s: Step: %d", what, a)
	}
}

// TestStates: there are 1 to 64, and the first one is one of them.
func TestStates(t *testing.T) {
	x := compiled(t, source)
	for _, states := range edges {
		for _, start := range edges {
			may := states >= 1 && states <= 64 && start >= 0 && start < states
			wantTable(t, "states", x, 9, 3, api.Table{States: states, Start: start}, may)
		}
	}
}

// TestStateOfAStep is M1: a state that the table has not is told again, with SystemErr, ahead of what is wrong with the call.
func TestStateOfAStep(t *testing.T) {
	x := compiled(t, source)
	for _, states := range []int{2, 3, 63, 64} {
		y := table()
		y.States = states
		for _, state := range append(edges, states-1, states, states+1) {
			for _, c := range []struct {
				proc int
				args string
				told int
			}{{0, "", api.Success}, {0, "a", api.GarbageArgs}, {7, "", api.ProcUnavail}, {1, "a", api.GarbageArgs}} {
				want := told{state, c.told, ""}
				if state < 0 || state >= states {
					want.accept = api.SystemErr
				}
				wantStep(t, x, 9, 3, y, state, c.proc, c.args, want)
			}
		}
	}
}

// TestStatesOfARow: both are the table's.
func TestStatesOfARow(t *testing.T) {
	x := compiled(t, source)
	for _, states := range []int{2, 64} {
		for _, from := range append(edges, states-1, states) {
			for _, to := range append(edges, states-1, states) {
				y := table()
				y.States = states
				y.Rows[0].State, y.Rows[0].To = from, to
				may := from >= 0 && from < states && to >= 0 && to < states
				wantTable(t, "a row", x, 9, 3, y, may)
				if may {
					wantStep(t, x, 9, 3, y, from, 1, four(1)+four(2), told{to, api.Success, four(3)})
				}
			}
		}
	}
}

// TestManyRows: there are at most 200.
func TestManyRows(t *testing.T) {
	x := compiled(t, source)
	for _, n := range []int{0, 1, 199, 200, 201, 202, 400, 1000} {
		y := api.Table{States: 64}
		for i := range n {
			y.Rows = append(y.Rows, api.Row{State: i % 3, Proc: 1, Args: args(whole(i), whole(-i)), To: i % 64, Result: whole(7 * i)})
		}
		wantTable(t, "rows", x, 9, 3, y, n <= 200)
		for i := range min(n, 200) {
			if n <= 200 && i%23 == 0 {
				wantStep(t, x, 9, 3, y, i%3, 1, four(i)+four(-i), told{i % 64, api.Success, four(7 * i)})
				wantStep(t, x, 9, 3, y, (i+1)%3, 1, four(i)+four(-i), told{(i + 1) % 3, api.Success, four(0)})
			}
		}
	}
}

// TestProcOfARow: it is one of the version's, but not 0, also where the version has a procedure 0.
func TestProcOfARow(t *testing.T) {
	x := compiled(t, "program P { version V { void N(void) = 0; void A(void) = 1; void B(void) = 4294967295; } = 3; version W { void C(void) = 2; } = 4; } = 9; program Q { version V { void D(void) = 5; } = 3; } = 8;")
	for _, proc := range append(edges, 5, api.MaxWord, api.MaxWord+1) {
		y := api.Table{States: 1, Rows: []api.Row{{Proc: proc}}}
		wantTable(t, "a row", x, 9, 3, y, proc == 1 || proc == api.MaxWord)
	}
}

// TestValuesOfARow: arguments are as many as the procedure has, each of its type, and the result is of its type.
func TestValuesOfARow(t *testing.T) {
	x := compiled(t, kinds)
	point := parts(whole(1), whole(2))
	shape := api.Value{Kind: api.Union, Int: 1, Items: args(point)}
	void := api.Value{Kind: api.Union, Items: args(api.Value{})}
	list := items(api.List)
	for _, c := range []struct {
		what   string
		proc   int
		args   []api.Value
		result api.Value
		may    bool
	}{
		{"right", 2, args(shape, point), void, true},
		{"right, none", 2, args(void, point), shape, true},
		{"one too few", 2, args(shape), void, false},
		{"none", 2, nil, void, false},
		{"one too many", 2, args(shape, point, point), void, false},
		{"a void too many", 2, args(shape, point, api.Value{}), void, false},
		{"in another order", 2, args(point, shape), void, false},
		{"no such arm", 2, args(api.Value{Kind: api.Union, Int: 2, Items: args(point)}, point), void, false},
		{"another arm's", 2, args(api.Value{Kind: api.Union, Int: 0, Items: args(point)}, point), void, false},
		{"no result", 2, args(shape, point), api.Value{}, false},
		{"another result", 2, args(shape, point), point, false},
		{"a wrong result", 2, args(shape, point), api.Value{Kind: api.Union, Int: 1, Items: args(api.Value{})}, false},
		{"an enum", 4, args(num(api.Enum, -1), num(api.Bool, 1), text(api.Fixed, "ab")), num(api.Enum, 5), true},
		{"no member", 4, args(num(api.Enum, 1), num(api.Bool, 1), text(api.Fixed, "ab")), num(api.Enum, 5), false},
		{"no bool", 4, args(num(api.Enum, -1), num(api.Bool, 2), text(api.Fixed, "ab")), num(api.Enum, 5), false},
		{"too short", 4, args(num(api.Enum, -1), num(api.Bool, 1), text(api.Fixed, "a")), num(api.Enum, 5), false},
		{"no member told", 4, args(num(api.Enum, -1), num(api.Bool, 1), text(api.Fixed, "ab")), num(api.Enum, 2), false},
		{"four of them", 5, args(list, list, text(api.Opaque, ""), num(api.Uint, api.MaxWord)), items(api.List, whole(-1)), true},
		{"no word", 5, args(list, list, text(api.Opaque, ""), num(api.Uint, api.MaxWord+1)), list, false},
		{"no number", 5, args(items(api.List, num(api.Uint, 1)), list, text(api.Opaque, ""), num(api.Uint, 0)), list, false},
		{"something more in it", 5, args(list, list, text(api.Opaque, ""), api.Value{Kind: api.Uint, Text: "x"}), list, false},
		{"-0 more in it", 5, args(list, list, text(api.Opaque, ""), api.Value{Kind: api.Uint, Double: math.Copysign(0, -1)}), list, false},
		{"a union by an enum", 7, args(api.Value{Kind: api.Union, Int: 5, Items: args(api.Value{Kind: api.Double, Double: 1})}), api.Value{Kind: api.Union, Int: -1, Items: args(api.Value{})}, true},
		{"a member without an arm", 7, args(api.Value{Kind: api.Union, Int: 0, Items: args(api.Value{})}), api.Value{Kind: api.Union, Int: -1, Items: args(api.Value{})}, false},
		{"no arguments", 8, nil, text(api.Opaque, "abc"), true},
		{"an argument of none", 8, args(api.Value{}), text(api.Opaque, "abc"), false},
		{"a string", 8, nil, text(api.String, "abc"), false},
		{"void", 9, args(text(api.Opaque, "a"), text(api.Opaque, "")), api.Value{}, true},
		{"void with something", 9, args(text(api.Opaque, "a"), text(api.Opaque, "")), num(api.Void, 1), false},
		{"something for void", 9, args(text(api.Opaque, "a"), text(api.Opaque, "")), whole(0), false},
	} {
		y := api.Table{States: 2, Rows: []api.Row{{Proc: c.proc, Args: c.args, To: 1, Result: c.result}}}
		wantTable(t, c.what, x, 1, 1, y, c.may)
		// What is wrong with a row is wrong wherever that stands.
		get := api.Row{State: 1, Proc: 8, Result: text(api.Opaque, "")}
		y.Rows = []api.Row{get, y.Rows[0]}
		wantTable(t, c.what+", behind others", x, 1, 1, y, c.may)
	}
}

// TestBytesOfARow: all arguments have at most 1000 bytes together, and so has the result for itself.
func TestBytesOfARow(t *testing.T) {
	x := compiled(t, kinds)
	bytes := func(n int) api.Value { return text(api.Opaque, strings.Repeat("b", n)) }
	for _, c := range []struct {
		a, b int
		may  bool
	}{
		{0, 0, true}, {992, 0, true}, {993, 0, false}, {996, 0, false}, {0, 992, true}, {0, 993, false}, {496, 496, true}, {497, 496, false}, {496, 497, false},
		{493, 493, true}, {500, 492, true}, {500, 493, false}, {900, 900, false}, {996, 996, false}, {997, 0, false}, {0, 997, false}, {1000, 0, false}, {5000, 0, false},
	} {
		y := api.Table{States: 2, Rows: []api.Row{{Proc: 9, Args: args(bytes(c.a), bytes(c.b)), To: 1}}}
		wantTable(t, "arguments", x, 1, 1, y, c.may)
	}
	for n := 990; n <= 1004; n++ {
		y := api.Table{States: 2, Rows: []api.Row{{Proc: 8, To: 1, Result: bytes(n)}}}
		wantTable(t, "a result", x, 1, 1, y, n <= 996)
		if n <= 996 {
			wantStep(t, x, 1, 1, y, 0, 8, "", told{1, api.Success, four(n) + padded(strings.Repeat("b", n))})
		}
		y = api.Table{States: 2, Rows: []api.Row{{Proc: 1, Args: args(text(api.String, strings.Repeat("s", n))), To: 1, Result: text(api.String, strings.Repeat("r", 996))}}}
		wantTable(t, "an argument beside a long result", x, 1, 1, y, n <= 996)
	}
}

// padded is a text with noughts behind it, to a multiple of four.
func padded(s string) string { return s + strings.Repeat("\x00", (4-len(s)%4)%4) }

// chain is so many cells.
func chain(n int) api.Value {
	v := parts(num(api.Uhyper, n), items(api.Maybe))
	for i := n - 1; i > 0; i-- {
		v = parts(num(api.Uhyper, i), items(api.Maybe, v))
	}
	return v
}

func chainBytes(n int) string {
	s := ""
	for i := 1; i <= n; i++ {
		s += four(0) + four(i) + four(min(1, n-i))
	}
	return s
}

// TestDepth: values are 64 deep at the most, as arguments and as results, in rows and in bytes.
func TestDepth(t *testing.T) {
	x := compiled(t, kinds)
	for n := 1; n <= 70; n++ {
		may := n <= 32
		y := api.Table{States: 2, Rows: []api.Row{{Proc: 3, Args: args(chain(n)), To: 1, Result: chain(1)}}}
		wantTable(t, "an argument", x, 1, 1, y, may)
		if may {
			wantStep(t, x, 1, 1, y, 0, 3, chainBytes(n), told{1, api.Success, chainBytes(1)})
		}
		y.Rows[0].Args, y.Rows[0].Result = args(chain(1)), chain(n)
		wantTable(t, "a result", x, 1, 1, y, may)
		if may {
			wantStep(t, x, 1, 1, y, 0, 3, chainBytes(1), told{1, api.Success, chainBytes(n)})
		}
		want := told{0, api.Success, four(0) + four(0) + four(0)}
		if !may {
			want = told{0, api.GarbageArgs, ""}
		}
		wantStep(t, x, 1, 1, api.Table{States: 1}, 0, 3, chainBytes(n), want)
	}
	deep := whole(1)
	for range 1 << 16 {
		deep = items(api.Maybe, deep)
	}
	wantTable(t, "far too deep", x, 1, 1, api.Table{States: 1, Rows: []api.Row{{Proc: 3, Args: args(deep), Result: chain(1)}}}, false)
	wantTable(t, "far too deep a result", x, 1, 1, api.Table{States: 1, Rows: []api.Row{{Proc: 3, Args: args(chain(1)), Result: deep}}}, false)
}

// TestBytesOfACall: bytes that are more than 1000 say no arguments; just 1000 may.
func TestBytesOfACall(t *testing.T) {
	x := compiled(t, kinds)
	y := api.Table{States: 1}
	for n := 0; n <= 1100; n++ {
		s := four(n) + padded(strings.Repeat("s", n))
		want := told{0, api.Success, four(0)}
		if len(s) > 1000 {
			want = told{0, api.GarbageArgs, ""}
		}
		wantStep(t, x, 1, 1, y, 0, 1, s, want)
	}
	for _, n := range []int{1000, 1004, 1 << 16} {
		s := four(n/4-1) + strings.Repeat("wxyz", n/4-1)
		want := told{0, api.GarbageArgs, ""}
		wantStep(t, x, 1, 1, y, 0, 1, s, want)
		wantStep(t, x, 1, 1, y, 0, 0, s, want)
		wantStep(t, x, 1, 1, y, 0, 77, s, told{0, api.ProcUnavail, ""})
	}
	half := four(123) + strings.Repeat("item", 123) // a list of 496 bytes
	last := four(7)
	wantStep(t, x, 1, 1, y, 0, 5, half+half+four(0)+last, told{0, api.Success, four(0)})
	wantStep(t, x, 1, 1, y, 0, 5, half+half+four(1)+"b\x00\x00\x00"+last, told{0, api.GarbageArgs, ""})
	wantStep(t, x, 1, 1, y, 0, 5, half+half+four(0)+last+last, told{0, api.GarbageArgs, ""})
}

// TestGarbage: what no values' bytes are.
func TestGarbage(t *testing.T) {
	x := compiled(t, kinds)
	y := api.Table{States: 3}
	for _, c := range []struct {
		proc int
		args string
	}{
		{1, four(1) + "a\x00\x00\x01"}, {1, four(1) + "a"}, {1, four(5) + "abcd"}, {1, four(-1)}, {1, four(0) + four(0)},
		{2, four(2) + four(1) + four(1)}, {2, four(1) + four(1) + four(1)}, {2, four(1) + four(1) + four(1) + four(1)}, {2, four(0) + four(0)},
		{4, four(1) + four(1) + "ab\x00\x00"}, {4, four(5) + four(2) + "ab\x00\x00"}, {4, four(5) + four(1) + "ab\x00\x01"}, {4, four(5) + four(1)}, {4, four(5) + four(1) + "ab"},
		{6, "\x7f\x80\x00\x01" + four(0) + four(0)}, {6, four(0) + "\x7f\xf8\x00\x00\x00\x00\x00\x01"}, {6, four(0) + "\xff\xf8\x00\x00\x00\x00\x00\x00"}, {6, four(0) + four(0)},
		{7, four(0)}, {7, four(1)}, {7, four(5)}, {7, four(-1) + four(0)}, {8, four(0)}, {8, "a"}, {9, four(0)}, {9, ""},
	} {
		wantStep(t, x, 1, 1, y, 2, c.proc, c.args, told{2, api.GarbageArgs, ""})
	}
}

// TestLeast is M1: where there is no row, the state stays, and the result is the least value.
func TestLeast(t *testing.T) {
	x := compiled(t, kinds)
	y := api.Table{States: 3}
	for _, c := range []struct {
		proc    int
		args    string
		results string
	}{
		{1, four(1) + "a\x00\x00\x00", four(0)},
		{2, four(0) + four(1) + four(2), four(1) + four(0) + four(0)},
		{3, chainBytes(2), four(0) + four(0) + four(0)},
		{4, four(-1) + four(1) + "ab\x00\x00", four(5)},
		{5, four(0) + four(0) + four(0) + four(0), four(0)},
		{6, "\x7f\xc0\x00\x00" + "\x7f\xf8\x00\x00\x00\x00\x00\x00", four(0) + four(0) + four(0)},
		{7, four(-1), four(5) + four(0) + four(0)},
		{8, "", four(0)},
		{9, four(0) + four(0), ""},
	} {
		for state := range 3 {
			wantStep(t, x, 1, 1, y, state, c.proc, c.args, told{state, api.Success, c.results})
		}
	}
}

// TestTwice: no two rows have the same State, Proc and Args.
func TestTwice(t *testing.T) {
	x := compiled(t, kinds)
	nan := func(low uint64) float64 { return math.Float64frombits(0x7ff8<<48 | low) }
	draw := func(f float32, d float64) []api.Value {
		return args(api.Value{Kind: api.Float, Single: f}, api.Value{Kind: api.Double, Double: d})
	}
	result := items(api.Array, api.Value{Kind: api.Float}, api.Value{Kind: api.Float}, api.Value{Kind: api.Float})
	minus := math.Copysign(0, -1)
	for _, c := range []struct {
		what string
		a, b []api.Value
		may  bool
	}{
		{"the same", draw(1, 2), draw(1, 2), false},
		{"another first", draw(1, 2), draw(3, 2), true},
		{"another second", draw(1, 2), draw(1, 3), true},
		{"in turns", draw(1, 2), draw(2, 1), true},
		{"0 and -0", draw(1, 0), draw(1, minus), true},
		{"0 and -0 of 32 bits", draw(0, 0), draw(float32(minus), 0), true},
		{"-0", draw(float32(minus), minus), draw(float32(minus), minus), false},
		{"NaN", draw(1, nan(0)), draw(1, nan(0)), false},
		{"NaN of other bits", draw(1, nan(5)), draw(1, -nan(9)), false},
		{"NaN of 32 bits", draw(math.Float32frombits(0x7fc00001), 1), draw(math.Float32frombits(0xffc00000), 1), false},
	} {
		first := api.Row{State: 1, Proc: 6, Args: c.a, To: 0, Result: result}
		second := api.Row{State: 1, Proc: 6, Args: c.b, To: 2, Result: result}
		other := api.Row{State: 1, Proc: 8, Result: text(api.Opaque, "x")}
		wantTable(t, c.what, x, 1, 1, api.Table{States: 3, Rows: []api.Row{first, second}}, c.may)
		wantTable(t, c.what+", far from one another", x, 1, 1, api.Table{States: 3, Rows: []api.Row{other, second, {Proc: 8, Result: text(api.Opaque, "")}, first}}, c.may)
		second.State = 2
		wantTable(t, c.what+", in other states", x, 1, 1, api.Table{States: 3, Rows: []api.Row{first, second}}, true)
	}
	// Arguments that have the same bytes all together, but for other procedures, or parted otherwise.
	say, put := args(text(api.String, "\x00\x00\x00\x00")), args(text(api.Opaque, "abcd"), text(api.Opaque, ""))
	rows := []api.Row{{Proc: 1, Args: say, Result: text(api.String, "")}, {Proc: 9, Args: put}, {Proc: 9, Args: args(put[1], put[0])}}
	wantTable(t, "other procedures", x, 1, 1, api.Table{States: 1, Rows: rows}, true)
	wantTable(t, "all twice", x, 1, 1, api.Table{States: 1, Rows: slices.Concat(rows, rows)}, false)
	wantTable(t, "the last one twice", x, 1, 1, api.Table{States: 1, Rows: append(rows, rows[2])}, false)
	wantTable(t, "none twice", x, 1, 1, api.Table{States: 1, Rows: []api.Row{{Proc: 8, Result: text(api.Opaque, "a")}, {Proc: 8, Result: text(api.Opaque, "b")}}}, false)
}

// TestFoundByTheSame: a row is found by arguments that are the same, whatever bits a NaN had.
func TestFoundByTheSame(t *testing.T) {
	x := compiled(t, kinds)
	odd := math.Float64frombits(0xfff8000000000123)
	y := api.Table{States: 2, Rows: []api.Row{{Proc: 6, Args: args(api.Value{Kind: api.Float, Single: float32(odd)}, api.Value{Kind: api.Double, Double: odd}), To: 1, Result: items(api.Array, api.Value{Kind: api.Float, Single: float32(odd)}, api.Value{Kind: api.Float}, api.Value{Kind: api.Float, Single: 1})}}}
	nan := "\x7f\xc0\x00\x00"
	wantStep(t, x, 1, 1, y, 0, 6, nan+"\x7f\xf8\x00\x00\x00\x00\x00\x00", told{1, api.Success, nan + four(0) + "\x3f\x80\x00\x00"})
}

// TestWrongSchemas is R3: of a schema that may not be no version is there, and that is told ahead of what is wrong with the table.
func TestWrongSchemas(t *testing.T) {
	right := compiled(t, kinds)
	for what, turn := range map[string]func(x *api.Schema){
		"none":             func(x *api.Schema) { *x = api.Schema{} },
		"programs alone":   func(x *api.Schema) { x.Types, x.Names = nil, nil },
		"no Int":           func(x *api.Schema) { x.Types[1].Kind = api.Uint },
		"no such type":     func(x *api.Schema) { x.Programs[0].Versions[0].Procs[0].Result = len(x.Types) },
		"below 0":          func(x *api.Schema) { x.Programs[0].Versions[0].Procs[0].Result = -1 },
		"a void argument":  func(x *api.Schema) { x.Programs[0].Versions[0].Procs[0].Args[0] = 0 },
		"a number twice":   func(x *api.Schema) { x.Programs[0].Versions[0].Procs[1].Number = 1 },
		"a program twice":  func(x *api.Schema) { x.Programs = append(x.Programs, x.Programs[0]) },
		"a name twice":     func(x *api.Schema) { x.Names = append(x.Names, x.Names[0]) },
		"no name":          func(x *api.Schema) { x.Programs[0].Name = "" },
		"a wrong 0":        func(x *api.Schema) { x.Programs[0].Versions[0].Procs[0].Number = 0 },
		"a loop":           func(x *api.Schema) { x.Types[8].Fields[0].Type = 8 },
		"a version's name": func(x *api.Schema) { x.Programs[0].Versions[0].Name = "struct" },
		"something more":   func(x *api.Schema) { x.Types[8].Size = 1 },
	} {
		x := compiled(t, kinds)
		turn(&x)
		if schema.Right(x) {
			t.Fatalf("%s: it may be", what)
		}
		wantRefused(t, what, x, 1, 1, api.Table{States: 1}, api.ErrMachineNone)
		wantRefused(t, what+", no table", x, 1, 1, api.Table{}, api.ErrMachineNone)
	}
	wantRefused(t, "no version, no table", right, 1, 2, api.Table{}, api.ErrMachineNone)
	wantRefused(t, "no program, no table", right, 2, 1, api.Table{}, api.ErrMachineNone)
	wantRefused(t, "no table", right, 1, 1, api.Table{}, api.ErrMachineTable)
}

// TestManyParts: arguments that cost as much as any may are read all the same.
func TestManyParts(t *testing.T) {
	nested := "struct s0 { int n; };"
	for i := range 60 {
		nested += fmt.Sprintf("struct s%d { s%d n; };", i+1, i)
	}
	x := compiled(t, nested+"typedef s60 some<>; typedef s60 half[125]; program P { version V { int A(some) = 1; int B(half, half) = 2; } = 1; } = 1;")
	list := four(249) + strings.Repeat("word", 249)
	twice := strings.Repeat("word", 250)
	c, _ := codec.Lower(x)
	for proc, s := range map[int]string{1: list, 2: twice} {
		p, _ := schema.Proc(x, 1, 1, proc)
		l, left, e := engine.Unpack(c, p.Args, s, 1<<40)
		if e != api.OK || 1<<40-left < 20000 {
			t.Fatalf("%d: %d, it costs %d", proc, e, 1<<40-left)
		}
		y := api.Table{States: 2, Rows: []api.Row{{Proc: proc, Args: l, To: 1, Result: whole(7)}}}
		for i, place := range p.Args {
			if e := value.Fits(x, place, l[i]); e != api.OK || value.Depth(l[i]) < 62 {
				t.Fatalf("%d: %d", proc, e)
			}
		}
		wantTable(t, "many parts", x, 1, 1, y, true)
		wantStep(t, x, 1, 1, y, 0, proc, s, told{1, api.Success, four(7)})
		wantStep(t, x, 1, 1, y, 0, proc, s[:len(s)-4], told{0, api.GarbageArgs, ""})
		wantStep(t, x, 1, 1, y, 1, proc, s, told{1, api.Success, four(0)})
	}
}

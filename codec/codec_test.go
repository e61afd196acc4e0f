package codec_test

import (
	"math"
	"reflect"
	"strconv"
	"testing"

	"callbox/api"
	"callbox/codec"
	"callbox/schema"
)

const example = "struct point { int x; int y; }; union shape switch (bool b) { case TRUE: point p; default: void; }; typedef shape row<5>;"

// everyKind has each kind of type, from the place 8 on.
const everyKind = "enum e { A = 3, B = -1 };" + // 8
	"typedef opaque f[3];" + // 9
	"typedef opaque o<4>;" + // 10
	"typedef string s<>;" + // 11
	"typedef e a[2];" + // 12
	"typedef o l<7>;" + // 13
	"typedef a *m;" + // 14
	"struct r { int a; unsigned int b; hyper c; unsigned hyper d; float e; double f; bool g; e h; l i; };" + // 15
	"union u switch (e k) { case B: r x; case A: void; };" + // 16
	"union w switch (int k) { case 5: case -7: m x; case 6: hyper z; case 1: void; default: u y; };" // 17

func compiled(t *testing.T, s string) api.Schema {
	t.Helper()
	x, e, at := schema.Compile(s)
	if e != api.OK {
		t.Fatalf("%s: %d, %d", s, e, at)
	}
	return x
}

func lowered(t *testing.T, x api.Schema) api.Code {
	t.Helper()
	c, e := codec.Lower(x)
	if e != api.OK || !codec.Right(c) {
		t.Fatalf("%s: %d, %s", short(x), e, short(c))
	}
	return c
}

func lowerSource(t *testing.T, s string) api.Code {
	t.Helper()
	return lowered(t, compiled(t, s))
}

// bare is a code whose lists, if they are empty, are nil.
func bare(c api.Code) api.Code {
	c.Entries, c.Ops = append([]int(nil), c.Entries...), append([]api.Op(nil), c.Ops...)
	for i := range c.Ops {
		c.Ops[i].T = append([]int(nil), c.Ops[i].T...)
	}
	return c
}

// wantCode holds a code against another one, by other means than the layer's own.
func wantCode(t *testing.T, what string, got, want api.Code) {
	t.Helper()
	if !reflect.DeepEqual(bare(got), bare(want)) {
		t.Errorf("%s: %s, not %s", what, short(got), short(want))
	}
	if !codec.Same(got, want) || !codec.Same(want, got) {
		t.Errorf("%s: not Same: %s, %s", what, short(got), short(want))
	}
}

// wantOps holds the operations of a source's types from 8 on against a list.
func wantOps(t *testing.T, s string, want ...api.Op) {
	t.Helper()
	c := lowerSource(t, s)
	wantCode(t, s, api.Code{Ops: c.Ops[16:]}, api.Code{Ops: want})
}

func end() api.Op { return api.Op{Code: api.OpEnd} }

// TestExampleOne is the chapter's first example.
func TestExampleOne(t *testing.T) {
	want := api.Code{Entries: []int{0, 2, 4, 6, 8, 10, 12, 14, 16, 20, 22}}
	for _, code := range []int{api.OpVoid, api.OpInt, api.OpUint, api.OpHyper, api.OpUhyper, api.OpFloat, api.OpDouble, api.OpBool} {
		want.Ops = append(want.Ops, api.Op{Code: code}, end())
	}
	want.Ops = append(want.Ops,
		api.Op{Code: api.OpStruct, A: 2}, api.Op{Code: api.OpInt}, api.Op{Code: api.OpInt}, end(),
		api.Op{Code: api.OpUnion, A: 0, B: 14, T: []int{1, 16}}, end(),
		api.Op{Code: api.OpList, A: 5, B: 20}, end())
	wantCode(t, example, lowerSource(t, example), want)
}

// TestExampleTwo is the chapter's second example.
func TestExampleTwo(t *testing.T) {
	for _, c := range []struct {
		what string
		do   func(c *api.Code)
		want bool
	}{
		{"as it is", func(c *api.Code) {}, true},
		{"B 15", func(c *api.Code) { c.Ops[20].B = 15 }, false},
		{"A 5", func(c *api.Code) { c.Ops[20].A = 5 }, false},
		{"without the last operation", func(c *api.Code) { c.Ops = c.Ops[:len(c.Ops)-1] }, false},
		{"an Entry more", func(c *api.Code) { c.Entries = append(c.Entries, 24) }, false},
		{"A -1", func(c *api.Code) { c.Ops[20].A = -1 }, true},
		{"two cases", func(c *api.Code) { c.Ops[20].T, c.Ops[20].A = []int{1, 16, 0, 0}, -1 }, true},
		{"OpArray", func(c *api.Code) { c.Ops[22].Code = api.OpArray }, true},
		{"OpArray of itself", func(c *api.Code) { c.Ops[22].Code, c.Ops[22].B = api.OpArray, 22 }, false},
		{"OpList of itself", func(c *api.Code) { c.Ops[22].B = 22 }, true},
	} {
		code := lowerSource(t, example)
		c.do(&code)
		if codec.Right(code) != c.want {
			t.Errorf("%s: not %t", c.what, c.want)
		}
	}
	wantCode(t, "without default", changed(lowerSource(t, example), func(c *api.Code) { c.Ops[20].A = -1 }),
		lowerSource(t, "struct point { int x; int y; }; union shape switch (bool b) { case TRUE: point p; }; typedef shape row<5>;"))
}

// TestExampleThree is the chapter's third example.
func TestExampleThree(t *testing.T) {
	x := compiled(t, example)
	x.Types[1].Kind = api.Uint
	wantRefused(t, "a Uint at 1", x)
}

// wantRefused: no schema, and so no code.
func wantRefused(t *testing.T, what string, x api.Schema) {
	t.Helper()
	c, e := codec.Lower(x)
	if e != api.ErrCodecSchema || len(c.Ops) != 0 || len(c.Entries) != 0 {
		t.Errorf("%s: %s, %d", what, short(c), e)
	}
}

// TestEveryKind is L1: the table of operations, and what they have not.
func TestEveryKind(t *testing.T) {
	wantOps(t, everyKind,
		api.Op{Code: api.OpEnum, T: []int{3, -1}}, end(), // 16
		api.Op{Code: api.OpFixed, A: 3}, end(), // 18
		api.Op{Code: api.OpOpaque, A: 4}, end(), // 20
		api.Op{Code: api.OpString, A: api.MaxWord}, end(), // 22
		api.Op{Code: api.OpArray, A: 2, B: 16}, end(), // 24
		api.Op{Code: api.OpList, A: 7, B: 20}, end(), // 26
		api.Op{Code: api.OpMaybe, B: 24}, end(), // 28
		api.Op{Code: api.OpStruct, A: 9}, // 30
		api.Op{Code: api.OpInt}, api.Op{Code: api.OpUint}, api.Op{Code: api.OpHyper}, api.Op{Code: api.OpUhyper}, api.Op{Code: api.OpFloat}, api.Op{Code: api.OpDouble}, api.Op{Code: api.OpBool},
		api.Op{Code: api.OpCall, B: 16}, api.Op{Code: api.OpCall, B: 26}, end(),
		api.Op{Code: api.OpUnion, A: -1, B: 16, T: []int{-1, 30, 3, 0}}, end(), // 41
		api.Op{Code: api.OpUnion, A: 41, B: 2, T: []int{5, 28, -7, 28, 6, 6, 1, 0}}, end(), // 43
	)
}

// TestFields is L1: a field of a type 1 to 7 is that type's operation, however it is called; one of any other type a call.
func TestFields(t *testing.T) {
	wantOps(t, "typedef int i; struct s { i a; };",
		api.Op{Code: api.OpStruct, A: 1}, api.Op{Code: api.OpInt}, end())
	wantOps(t, "enum e { A = 0 }; struct s { e a; bool b; }; struct q { s a; double b; s c; };",
		api.Op{Code: api.OpEnum, T: []int{0}}, end(),
		api.Op{Code: api.OpStruct, A: 2}, api.Op{Code: api.OpCall, B: 16}, api.Op{Code: api.OpBool}, end(),
		api.Op{Code: api.OpStruct, A: 3}, api.Op{Code: api.OpCall, B: 18}, api.Op{Code: api.OpDouble}, api.Op{Code: api.OpCall, B: 18}, end())
	// Types that stand behind the struct, itself among them.
	wantOps(t, "struct s { int n[2]; s *next; s l<>; };",
		api.Op{Code: api.OpStruct, A: 3}, api.Op{Code: api.OpCall, B: 21}, api.Op{Code: api.OpCall, B: 23}, api.Op{Code: api.OpCall, B: 25}, end(),
		api.Op{Code: api.OpArray, A: 2, B: 2}, end(),
		api.Op{Code: api.OpMaybe, B: 16}, end(),
		api.Op{Code: api.OpList, A: api.MaxWord, B: 16}, end())
}

// TestUnions is L1: unions with and without Else, arms with several cases, arms side by side that lead to one type.
func TestUnions(t *testing.T) {
	union := func(a, b int, turns ...int) []api.Op {
		return []api.Op{{Code: api.OpUnion, A: a, B: b, T: turns}, end()}
	}
	for _, c := range []struct {
		source string
		want   []api.Op
	}{
		{"union u switch (int k) { case 1: int a; };", union(-1, 2, 1, 2)},
		{"union u switch (int k) { case 1: int a; default: int b; };", union(2, 2, 1, 2)},
		{"union u switch (int k) { case 1: int a; default: void; };", union(0, 2, 1, 2)},
		{"union u switch (int k) { case 1: void; };", union(-1, 2, 1, 0)},
		{"union u switch (int k) { case 1: case 2: int a; };", union(-1, 2, 1, 2, 2, 2)},
		{"union u switch (int k) { case 1: int a; case 2: int b; };", union(-1, 2, 1, 2, 2, 2)},
		{"union u switch (int k) { case 2: int a; case 1: int b; };", union(-1, 2, 2, 2, 1, 2)},
		{"union u switch (int k) { case -2147483648: int a; case 2147483647: void; case 0: hyper b; };", union(-1, 2, math.MinInt32, 2, math.MaxInt32, 0, 0, 6)},
		{"union u switch (unsigned int k) { case 4294967295: case 0: bool a; };", union(-1, 4, api.MaxWord, 14, 0, 14)},
		{"union u switch (bool k) { case FALSE: float a; case TRUE: double b; default: unsigned hyper c; };", union(8, 14, 0, 10, 1, 12)},
	} {
		wantOps(t, c.source, c.want...)
	}
}

// TestNamesAndPrograms is L1: of names and programs the code has nothing.
func TestNamesAndPrograms(t *testing.T) {
	types := "struct point { int x; int y; };"
	wantCode(t, "more", lowerSource(t, "const N = 5;"+types+"typedef point other; program P { version V { point F(int, point) = 1; } = 2; } = 7;"), lowerSource(t, types))
	wantCode(t, "none", lowerSource(t, "const N = 5;"), lowerSource(t, ""))
}

// TestEnumNumbers is L1: the numbers of the members, in their order.
func TestEnumNumbers(t *testing.T) {
	source, numbers := "enum e { A = 2147483647, B = -2147483648", []int{math.MaxInt32, math.MinInt32}
	for i := range 62 {
		source += ", C" + strconv.Itoa(i) + " = " + strconv.Itoa(30-i)
		numbers = append(numbers, 30-i)
	}
	wantOps(t, source+" };", api.Op{Code: api.OpEnum, T: numbers}, end())
}

// TestNoSchema is L1: schemas that may not be, in whatever they have; names and programs are looked at, too.
func TestNoSchema(t *testing.T) {
	wantRefused(t, "nothing", api.Schema{})
	for what, do := range spoilt {
		x := compiled(t, everyKind+"program P { version V { r F(u) = 1; } = 2; } = 7;")
		do(&x)
		wantRefused(t, what, x)
	}
}

// spoilt are ways to make a schema of everyKind and a program one that may not be.
var spoilt = map[string]func(x *api.Schema){
	"seven types":                    func(x *api.Schema) { x.Types = x.Types[:7] },
	"another Void":                   func(x *api.Schema) { x.Types[0].Kind = api.Bool },
	"something in an Int":            func(x *api.Schema) { x.Types[1].Size = 1 },
	"an Int at 8":                    func(x *api.Schema) { x.Types[8] = api.Type{Kind: api.Int} },
	"no kind":                        func(x *api.Schema) { x.Types[9].Kind = 17 },
	"a kind below all":               func(x *api.Schema) { x.Types[9].Kind = math.MinInt },
	"a kind above all":               func(x *api.Schema) { x.Types[9].Kind = math.MaxInt },
	"no members":                     func(x *api.Schema) { x.Types[8].Members = nil },
	"a member that stands not":       func(x *api.Schema) { x.Types[8].Members[0].Name = "Z" },
	"a size of 0":                    func(x *api.Schema) { x.Types[9].Size = 0 },
	"a size of 1001":                 func(x *api.Schema) { x.Types[12].Size = 1001 },
	"a size below 0":                 func(x *api.Schema) { x.Types[10].Size = -1 },
	"a size above a word":            func(x *api.Schema) { x.Types[13].Size = api.MaxWord + 1 },
	"a size of a Maybe":              func(x *api.Schema) { x.Types[14].Size = 1 },
	"of nothing":                     func(x *api.Schema) { x.Types[13].Of = 0 },
	"of no place":                    func(x *api.Schema) { x.Types[13].Of = 18 },
	"of a place below 0":             func(x *api.Schema) { x.Types[14].Of = -1 },
	"of a place far away":            func(x *api.Schema) { x.Types[14].Of = math.MaxInt },
	"of itself":                      func(x *api.Schema) { x.Types[12].Of = 12 },
	"no fields":                      func(x *api.Schema) { x.Types[15].Fields = nil },
	"a field of nothing":             func(x *api.Schema) { x.Types[15].Fields[1].Type = 0 },
	"a field of no place":            func(x *api.Schema) { x.Types[15].Fields[1].Type = 18 },
	"fields alike":                   func(x *api.Schema) { x.Types[15].Fields[1].Name = "a" },
	"a field of itself":              func(x *api.Schema) { x.Types[15].Fields[1].Type = 15 },
	"no arms":                        func(x *api.Schema) { x.Types[16].Arms = nil },
	"an Else that is none":           func(x *api.Schema) { x.Types[17].Else = 0 },
	"an Else beyond":                 func(x *api.Schema) { x.Types[17].Else = 5 },
	"an Else below -1":               func(x *api.Schema) { x.Types[17].Else = -2 },
	"an Else far away":               func(x *api.Schema) { x.Types[16].Else = math.MaxInt },
	"an arm of no place":             func(x *api.Schema) { x.Types[17].Arms[0].Type = -1 },
	"a case that is none":            func(x *api.Schema) { x.Types[16].Arms[0].Cases[0] = 4 },
	"a case twice":                   func(x *api.Schema) { x.Types[17].Arms[0].Cases[0] = 1 },
	"an arm without cases":           func(x *api.Schema) { x.Types[17].Arms[1].Cases = nil },
	"a discriminant that may not be": func(x *api.Schema) { x.Types[17].Of = api.Hyper },
	"a name that is none":            func(x *api.Schema) { x.Names[0].Name = "int" },
	"a name twice":                   func(x *api.Schema) { x.Names[0].Name = x.Names[3].Name },
	"a name of no place":             func(x *api.Schema) { x.Names[3].Value = 18 },
	"a program without versions":     func(x *api.Schema) { x.Programs[0].Versions = nil },
	"a result of no place":           func(x *api.Schema) { x.Programs[0].Versions[0].Procs[0].Result = 18 },
	"an argument of nothing":         func(x *api.Schema) { x.Programs[0].Versions[0].Procs[0].Args[0] = 0 },
}

// changed is a code of new memory that is changed.
func changed(c api.Code, do func(c *api.Code)) api.Code {
	c = bare(c)
	do(&c)
	return c
}

// TestSame is L3: each number counts, nothing else does.
func TestSame(t *testing.T) {
	one := lowerSource(t, everyKind)
	if !codec.Same(one, bare(one)) || !codec.Same(api.Code{}, api.Code{}) || codec.Same(one, api.Code{}) || codec.Same(api.Code{}, one) {
		t.Fatal("Same")
	}
	for what, do := range map[string]func(c *api.Code){
		"Code":              func(c *api.Code) { c.Ops[16].Code++ },
		"A":                 func(c *api.Code) { c.Ops[18].A++ },
		"B":                 func(c *api.Code) { c.Ops[24].B++ },
		"A of an end":       func(c *api.Code) { c.Ops[len(c.Ops)-1].A = 1 },
		"B of an end":       func(c *api.Code) { c.Ops[len(c.Ops)-1].B = math.MinInt },
		"T of an end":       func(c *api.Code) { c.Ops[len(c.Ops)-1].T = []int{0} },
		"a number of T":     func(c *api.Code) { c.Ops[16].T[1] = math.MaxInt },
		"T is longer":       func(c *api.Code) { c.Ops[16].T = append(c.Ops[16].T, 0) },
		"T is shorter":      func(c *api.Code) { c.Ops[16].T = c.Ops[16].T[:1] },
		"T in disorder":     func(c *api.Code) { c.Ops[16].T[0], c.Ops[16].T[1] = c.Ops[16].T[1], c.Ops[16].T[0] },
		"no T":              func(c *api.Code) { c.Ops[43].T = nil },
		"an operation more": func(c *api.Code) { c.Ops = append(c.Ops, api.Op{}) },
		"an operation less": func(c *api.Code) { c.Ops = c.Ops[:len(c.Ops)-1] },
		"no operations":     func(c *api.Code) { c.Ops = nil },
		"an entry":          func(c *api.Code) { c.Entries[3]++ },
		"an entry more":     func(c *api.Code) { c.Entries = append(c.Entries, 0) },
		"an entry less":     func(c *api.Code) { c.Entries = c.Entries[:17] },
		"no entries":        func(c *api.Code) { c.Entries = nil },
	} {
		other := changed(one, do)
		if codec.Same(one, other) || codec.Same(other, one) {
			t.Errorf("%s: Same", what)
		}
		if !codec.Same(other, bare(other)) {
			t.Errorf("%s: not the same as itself", what)
		}
	}
}

// TestSameOfAny is L3: codes that may not be are held against one another like all others; empty lists are the same as none.
func TestSameOfAny(t *testing.T) {
	a := api.Code{Ops: []api.Op{{Code: 99, A: math.MinInt, B: math.MaxInt, T: []int{}}}, Entries: []int{}}
	b := api.Code{Ops: []api.Op{{Code: 99, A: math.MinInt, B: math.MaxInt}}}
	if !codec.Same(a, b) || !codec.Same(b, a) {
		t.Error("empty and none")
	}
	if codec.Right(a) || codec.Right(b) {
		t.Error("Right")
	}
}

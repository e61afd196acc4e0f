package stub_test

import (
	"reflect"
	"slices"
	"strings"
	"testing"

	"callbox/api"
	"callbox/codec"
	"callbox/schema"
	"callbox/stub"
)

// firstEight are the lines of the types that are always there.
const firstEight = "func t0(x *Run) {\n\tx.Void()\n}\nfunc t1(x *Run) {\n\tx.Int()\n}\nfunc t2(x *Run) {\n\tx.Uint()\n}\nfunc t3(x *Run) {\n\tx.Hyper()\n}\n" +
	"func t4(x *Run) {\n\tx.Uhyper()\n}\nfunc t5(x *Run) {\n\tx.Float()\n}\nfunc t6(x *Run) {\n\tx.Double()\n}\nfunc t7(x *Run) {\n\tx.Bool()\n}\n"

const example = "struct point { int x; int y; }; typedef point row<5>;"

const exampleText = "package stub\nvar Name_point = t8\nvar Name_row = t9\n" + firstEight +
	"func t8(x *Run) {\n\tx.Struct(2)\n\tx.Int()\n\tx.Int()\n}\nfunc t9(x *Run) {\n\tx.List(5, t8)\n}\n"

// everyKind has each kind of type, from the place 8 on.
const everyKind = "const MANY = 4294967295;" +
	"enum e { A = 3, B = -1 };" + // 8
	"typedef opaque f[3];" + // 9
	"typedef opaque o<4>;" + // 10
	"typedef string s<>;" + // 11
	"typedef e a[2];" + // 12
	"typedef o l<7>;" + // 13
	"typedef a *m;" + // 14
	"struct r { int a; unsigned int b; hyper c; unsigned hyper d; float e; double f; bool g; e h; l i; };" + // 15
	"union u switch (e k) { case B: r x; case A: void; };" + // 16
	"union w switch (int k) { case 5: case -7: m x; case 6: hyper z; case 1: void; default: u y; };" // 17

const everyKindText = "package stub\nconst Name_MANY = 4294967295\nvar Name_e = t8\nconst Name_A = 3\nconst Name_B = -1\n" +
	"var Name_f = t9\nvar Name_o = t10\nvar Name_s = t11\nvar Name_a = t12\nvar Name_l = t13\nvar Name_m = t14\nvar Name_r = t15\nvar Name_u = t16\nvar Name_w = t17\n" + firstEight +
	"func t8(x *Run) {\n\tx.Enum(3, -1)\n}\n" +
	"func t9(x *Run) {\n\tx.Fixed(3)\n}\n" +
	"func t10(x *Run) {\n\tx.Opaque(4)\n}\n" +
	"func t11(x *Run) {\n\tx.String(4294967295)\n}\n" +
	"func t12(x *Run) {\n\tx.Array(2, t8)\n}\n" +
	"func t13(x *Run) {\n\tx.List(7, t10)\n}\n" +
	"func t14(x *Run) {\n\tx.Maybe(t12)\n}\n" +
	"func t15(x *Run) {\n\tx.Struct(9)\n\tx.Int()\n\tx.Uint()\n\tx.Hyper()\n\tx.Uhyper()\n\tx.Float()\n\tx.Double()\n\tx.Bool()\n\tt8(x)\n\tt13(x)\n}\n" +
	"func t16(x *Run) {\n\tx.Union(t8, nil, -1, t15, 3, t0)\n}\n" +
	"func t17(x *Run) {\n\tx.Union(t1, t16, 5, t14, -7, t14, 6, t3, 1, t0)\n}\n"

// compiled is the code of a source, and its names.
func compiled(t *testing.T, source string) (api.Code, []api.Named) {
	t.Helper()
	x, e, at := schema.Compile(source)
	if e != api.OK {
		t.Fatalf("%s: %d, %d", source, e, at)
	}
	c, e := codec.Lower(x)
	if e != api.OK {
		t.Fatalf("%s: %d", source, e)
	}
	return c, x.Names
}

// bare is a code of new memory whose lists, if they are empty, are nil.
func bare(c api.Code) api.Code {
	c.Entries, c.Ops = append([]int(nil), c.Entries...), append([]api.Op(nil), c.Ops...)
	for i := range c.Ops {
		c.Ops[i].T = append([]int(nil), c.Ops[i].T...)
	}
	return c
}

// wantSource: a code and names have that source, and are read of it.
func wantSource(t *testing.T, c api.Code, names []api.Named, want string) {
	t.Helper()
	if s, e := stub.Print(c, names); s != want || e != api.OK {
		t.Errorf("%s, %d, not %s", s, e, want)
	}
	d, l, e, n := stub.Read(want)
	if !reflect.DeepEqual(bare(d), bare(c)) || !slices.Equal(l, names) || e != api.OK || n != 0 {
		t.Errorf("%s: %v %v, %d, %d", want, d, l, e, n)
	}
}

// wantNoSource: there is none, and nothing comes beside the error.
func wantNoSource(t *testing.T, what string, c api.Code, names []api.Named) {
	t.Helper()
	if s, e := stub.Print(c, names); s != "" || e != api.ErrStubForm {
		t.Errorf("%s: %s, %d", what, s, e)
	}
}

// wantLine: a text is refused in that line (0: as a whole), and nothing comes beside the error.
func wantLine(t *testing.T, what, s string, line int) {
	t.Helper()
	c, l, e, n := stub.Read(s)
	if len(c.Ops) != 0 || len(c.Entries) != 0 || len(l) != 0 || e != api.ErrStubForm || n != line {
		t.Errorf("%s: %v %v, %d, %d, not %d", what, c, l, e, n, line)
	}
}

// with is a text in which one piece, which must stand there once, is another one.
func with(t *testing.T, s, piece, other string) string {
	t.Helper()
	if strings.Count(s, piece) != 1 {
		t.Fatalf("%q stands %d times in %q", piece, strings.Count(s, piece), s)
	}
	return strings.Replace(s, piece, other, 1)
}

// typed is the source of one type behind the first eight, of those lines, without names.
func typed(lines ...string) string {
	s := "package stub\n" + firstEight + "func t8(x *Run) {\n"
	for _, line := range lines {
		s += "\t" + line + "\n"
	}
	return s + "}\n"
}

func TestExamples(t *testing.T) {
	c, names := compiled(t, example)
	wantSource(t, c, names, exampleText)
	if n := strings.Count(exampleText, "\n"); n != 35 {
		t.Errorf("%d lines", n)
	}
	wantLine(t, "without its last byte", exampleText[:len(exampleText)-1], 35)
	wantLine(t, "t08", with(t, exampleText, "point = t8", "point = t08"), 2)
	wantLine(t, "t10", with(t, exampleText, "point = t8", "point = t10"), 0)
	wantLine(t, "without t9", with(t, exampleText, "func t9(x *Run) {\n\tx.List(5, t8)\n}\n", ""), 0)
	wantLine(t, "nothing", "", 1)
	c, _ = compiled(t, "struct s { int a; }; union u switch (bool b) { case TRUE: s x; case FALSE: void; };")
	wantSource(t, c, nil, "package stub\n"+firstEight+"func t8(x *Run) {\n\tx.Struct(1)\n\tx.Int()\n}\nfunc t9(x *Run) {\n\tx.Union(t7, nil, 1, t8, 0, t0)\n}\n")
}

func TestEveryKind(t *testing.T) {
	c, names := compiled(t, everyKind)
	wantSource(t, c, names, everyKindText)
}

func TestFirstEightAlone(t *testing.T) {
	c, names := compiled(t, "")
	wantSource(t, c, names, "package stub\n"+firstEight)
	wantSource(t, c, []api.Named{}, "package stub\n"+firstEight)
}

// TestEachOperation is B1: of each operation its line.
func TestEachOperation(t *testing.T) {
	for line, one := range map[string]ops{
		"x.Enum(0)":               enum(0),
		"x.Enum(7, -7, 0)":        enum(7, -7, 0),
		"x.Fixed(1)":              fixed(1),
		"x.Opaque(0)":             opaque(0),
		"x.String(10)":            text(10),
		"x.Array(2, t7)":          array(2, 7),
		"x.List(0, t8)":           list(0, 8),
		"x.Maybe(t8)":             maybe(8),
		"x.Union(t2, nil, 3, t8)": nil, // it has itself within
		"x.Union(t1, t0, 1, t1)":  union(1, 0, 1, 1),
		"x.Union(t7, nil, 0, t0)": union(7, -1, 0, 0),
		"x.Union(t2, t6, 4294967295, t5, 0, t4, 10, t3)": union(2, 6, 4294967295, 5, 0, 4, 10, 3),
		"x.Struct(1)\n\tx.Int()":                         structure(1),
		"x.Struct(1)\n\tx.Uint()":                        structure(2),
		"x.Struct(1)\n\tx.Hyper()":                       structure(3),
		"x.Struct(1)\n\tx.Uhyper()":                      structure(4),
		"x.Struct(1)\n\tx.Float()":                       structure(5),
		"x.Struct(1)\n\tx.Double()":                      structure(6),
		"x.Struct(2)\n\tx.Bool()\n\tx.Bool()":            structure(7, 7),
	} {
		if one == nil {
			wantLine(t, line, typed(line), 0)
			continue
		}
		wantSource(t, made(one), nil, typed(line))
	}
	wantSource(t, made(structure(9), maybe(8)), nil, "package stub\n"+firstEight+"func t8(x *Run) {\n\tx.Struct(1)\n\tt9(x)\n}\nfunc t9(x *Run) {\n\tx.Maybe(t8)\n}\n")
}

// TestForward is B1: a type is named by its place, also one that stands behind, and one of many digits.
func TestForward(t *testing.T) {
	all := []ops{list(3, 107), union(1, 106, 5, 105)}
	want := "package stub\n" + firstEight + "func t8(x *Run) {\n\tx.List(3, t107)\n}\nfunc t9(x *Run) {\n\tx.Union(t1, t106, 5, t105)\n}\n"
	for place := 10; place < 108; place++ {
		all = append(all, opaque(place))
		want += "func t" + decimal(place) + "(x *Run) {\n\tx.Opaque(" + decimal(place) + ")\n}\n"
	}
	wantSource(t, made(all...), []api.Named{{Name: "last", Value: 107}, {Name: "first"}}, with(t, want, "package stub\n", "package stub\nvar Name_last = t107\nvar Name_first = t0\n"))
}

// TestNames is B1: names stand in their order, constants and types among one another; one type may have several, or none.
func TestNames(t *testing.T) {
	c := made(fixed(4))
	wantSource(t, c, []api.Named{
		{Name: "z", Value: 8}, {Name: "y", Const: true, Value: 8}, {Name: "a", Value: 8}, {Name: "A", Const: true, Value: -8}, {Name: "b", Value: 0}, {Name: "zero", Const: true},
	}, with(t, typed("x.Fixed(4)"), "package stub\n", "package stub\nvar Name_z = t8\nconst Name_y = 8\nvar Name_a = t8\nconst Name_A = -8\nvar Name_b = t0\nconst Name_zero = 0\n"))
}

// TestTheNamesOfTheForms: what stands in the lines may be a Name, too.
func TestTheNamesOfTheForms(t *testing.T) {
	c := made()
	for _, name := range []string{"x", "t8", "t0", "nil", "Run", "func", "var", "package", "stub", "Name_", "Name_x", "Struct", "TRUE"} {
		wantSource(t, c, []api.Named{{Name: name, Value: 7}, {Name: name + "_", Const: true, Value: 7}}, "package stub\nvar Name_"+name+" = t7\nconst Name_"+name+"_ = 7\n"+firstEight)
	}
}

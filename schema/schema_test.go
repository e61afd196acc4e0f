package schema_test

import (
	"reflect"
	"slices"
	"strings"
	"testing"

	"callbox/api"
	"callbox/schema"
	"callbox/syntax"
)

// short is as much of a text as a failing test shows.
func short(s string) string {
	if len(s) > 300 {
		return s[:200] + " .. " + s[len(s)-100:]
	}
	return s
}

// same: are schemas the same, a list without elements being nil or not?
func same(a, b api.Schema) bool { return reflect.DeepEqual(copied(a), copied(b)) }

// copied is a schema of new memory whose empty lists are nil.
func copied(x api.Schema) api.Schema {
	out := api.Schema{Names: bare(x.Names)}
	for _, t := range x.Types {
		t.Members, t.Fields = bare(t.Members), bare(t.Fields)
		var arms []api.Arm
		for _, a := range t.Arms {
			a.Cases = bare(a.Cases)
			arms = append(arms, a)
		}
		t.Arms = arms
		out.Types = append(out.Types, t)
	}
	for _, p := range x.Programs {
		var versions []api.Version
		for _, v := range p.Versions {
			var procs []api.Proc
			for _, c := range v.Procs {
				c.Args = bare(c.Args)
				procs = append(procs, c)
			}
			v.Procs = procs
			versions = append(versions, v)
		}
		p.Versions = versions
		out.Programs = append(out.Programs, p)
	}
	return out
}

func bare[T any](list []T) []T {
	if len(list) == 0 {
		return nil
	}
	return slices.Clone(list)
}

// always are the types 0 to 7.
func always() []api.Type {
	return []api.Type{{Kind: 0}, {Kind: 1}, {Kind: 2}, {Kind: 3}, {Kind: 4}, {Kind: 5}, {Kind: 6}, {Kind: 7}}
}

// compiled is what a source says, which must be right.
func compiled(t *testing.T, s string) api.Schema {
	t.Helper()
	x, e, at := schema.Compile(s)
	if e != api.OK || at != 0 {
		t.Fatalf("%s: %d, %d", short(s), e, at)
	}
	if !schema.Right(x) {
		t.Fatalf("%s: not right: %v", short(s), x)
	}
	return x
}

func wantSays(t *testing.T, s string, types []api.Type, names []api.Named, programs []api.Program) {
	t.Helper()
	x := compiled(t, s)
	if want := (api.Schema{Types: append(always(), types...), Names: names, Programs: programs}); !same(x, want) {
		t.Errorf("%s: %v, not %v", s, x, want)
	}
}

// cut takes the mark out of a source: the place that it stands at is the one at which something is wrong.
func cut(t *testing.T, marked string) (string, int) {
	t.Helper()
	if strings.Count(marked, "@") != 1 {
		t.Fatalf("%s: not one mark", short(marked))
	}
	at := strings.Index(marked, "@")
	return marked[:at] + marked[at+1:], at
}

func wantFault(t *testing.T, s string, why api.Errno, place int) {
	t.Helper()
	x, e, at := schema.Compile(s)
	if e != why || at != place || !same(x, api.Schema{}) {
		t.Errorf("%s: %v, %d, %d, not %d, %d", short(s), x, e, at, why, place)
	}
}

// wantWrong: a source is refused at its mark; by its tree alone too; and whatever comes behind it.
func wantWrong(t *testing.T, marked string, why api.Errno) {
	t.Helper()
	s, place := cut(t, marked)
	wantFault(t, s, why, place)
	tree, e, _ := syntax.Parse(s)
	if e != api.OK {
		t.Fatalf("%s: no tree: %d", short(s), e)
	}
	x, e, at := schema.Resolve(tree)
	if e != why || at != place || !same(x, api.Schema{}) {
		t.Errorf("the tree of %s: %v, %d, %d, not %d, %d", short(s), x, e, at, why, place)
	}
	if len(tree.Kids) < api.MaxDefs && len(s) < api.MaxSource-100 {
		wantFault(t, s+"const later = 1;", why, place)
		wantFault(t, s+"struct later { later a; };", why, place)
	}
}

func wantRight(t *testing.T, s string) {
	t.Helper()
	compiled(t, s)
}

func typed(name string, place int) api.Named { return api.Named{Name: name, Value: place} }

func constant(name string, n int) api.Named { return api.Named{Name: name, Const: true, Value: n} }

func structOf(fields ...api.Field) api.Type { return api.Type{Kind: api.Struct, Fields: fields} }

func enumOf(members ...api.Member) api.Type { return api.Type{Kind: api.Enum, Members: members} }

func unionOf(of, otherwise int, arms ...api.Arm) api.Type {
	return api.Type{Kind: api.Union, Of: of, Else: otherwise, Arms: arms}
}

func sized(kind, size, of int) api.Type { return api.Type{Kind: kind, Size: size, Of: of} }

func TestExampleStruct(t *testing.T) {
	wantSays(t, "struct point { int x; int y; };", []api.Type{structOf(api.Field{Name: "x", Type: 1}, api.Field{Name: "y", Type: 1})}, []api.Named{typed("point", 8)}, nil)
}

func TestExampleOfAll(t *testing.T) {
	wantSays(t, "const N = 3; typedef opaque h[N]; struct s { h a; s *next; string t<>; enum { ONE = 1 } e; };",
		[]api.Type{
			sized(api.Fixed, 3, 0),
			structOf(api.Field{Name: "a", Type: 8}, api.Field{Name: "next", Type: 10}, api.Field{Name: "t", Type: 11}, api.Field{Name: "e", Type: 12}),
			sized(api.Maybe, 0, 9),
			sized(api.String, api.MaxWord, 0),
			enumOf(api.Member{Name: "ONE", Number: 1}),
		},
		[]api.Named{constant("N", 3), typed("h", 8), typed("s", 9), constant("ONE", 1)}, nil)
}

func TestExampleUnion(t *testing.T) {
	arm, void := api.Arm{Cases: []int{1}, Name: "x", Type: 1}, api.Arm{Cases: []int{0}}
	names := []api.Named{typed("u", 8)}
	wantSays(t, "union u switch (bool b) { case TRUE: int x; case 0: void; };", []api.Type{unionOf(7, -1, arm, void)}, names, nil)
	wantWrong(t, "union u switch (bool b) { case TRUE: int x; case @2: void; };", api.ErrSchemaCase)
	wantSays(t, "union u switch (bool b) { case TRUE: int x; default: void; };", []api.Type{unionOf(7, 1, arm, api.Arm{})}, names, nil)
}

func TestExampleFaults(t *testing.T) {
	for _, c := range []struct {
		marked string
		why    api.Errno
		at     int
	}{
		{"struct s { @s a; };", api.ErrSchemaLoop, 11},
		{"struct s { @t a; };", api.ErrSchemaNone, 11},
		{"struct s { @void; };", api.ErrSchemaVoid, 11},
		{"typedef int a[@1001];", api.ErrSchemaRange, 14},
		{"typedef int a[@0];", api.ErrSchemaRange, 14},
		{"typedef hyper @a[126];", api.ErrSchemaRange, 14},
		{"const A = 1; enum @A { B = 1 };", api.ErrSchemaTwice, 18},
		{"enum e { A = 1, B = @A };", api.ErrSchemaCase, 20},
	} {
		if _, at := cut(t, c.marked); at != c.at {
			t.Errorf("%s: marked at %d, not %d", c.marked, at, c.at)
		}
		wantWrong(t, c.marked, c.why)
	}
}

func TestExampleProgram(t *testing.T) {
	wantWrong(t, "program P { version V { void N(void) = 0; int A(int, @P) = 1; } = 2; } = 7;", api.ErrSchemaKind)
	s := "program P { version V { void N(void) = 0; int A(int, hyper) = 1; } = 2; } = 7;"
	null, a := api.Proc{Name: "N"}, api.Proc{Name: "A", Number: 1, Args: []int{1, 3}, Result: 1}
	wantSays(t, s, nil, nil, []api.Program{{Name: "P", Number: 7, Versions: []api.Version{{Name: "V", Number: 2, Procs: []api.Proc{null, a}}}}})
	x := compiled(t, s)
	if p, is := schema.Proc(x, 7, 2, 1); !is || !reflect.DeepEqual(p, a) {
		t.Errorf("A: %v, %t", p, is)
	}
	if p, is := schema.Proc(x, 7, 3, 1); is || !reflect.DeepEqual(p, api.Proc{}) {
		t.Errorf("none: %v, %t", p, is)
	}
}

// TestCompileRefusesAsParse is C1: what is wrong with the text is told as the layers below tell it.
func TestCompileRefusesAsParse(t *testing.T) {
	for _, s := range []string{
		"const A = 08;", "const A = 1", "a /*", "struct s { }; ", "typedef void;", "const 1 = A;", "_", "quadruple", "enum e { A = 1, };",
		"struct s { s a; }; struct t { int };", "const A = 1; const A = 2; const B = 4294967296;", "const A = 1; const A = 2; ?",
		strings.Repeat(" ", api.MaxSource+1), strings.Repeat("const A=1;", 101), strings.Repeat("struct{", 9),
		"struct s{" + strings.Repeat("struct{", 8), "struct s { " + strings.Repeat("int a;", 65) + "};",
	} {
		_, why, place := syntax.Parse(s)
		if why == api.OK {
			t.Fatalf("%s is a source", short(s))
		}
		wantFault(t, s, why, place)
	}
}

func TestSourceOfNothing(t *testing.T) {
	for _, s := range []string{"", " ", "/* nothing */"} {
		wantSays(t, s, nil, nil, nil)
	}
	wantSays(t, "const A = -2147483648; const B = 4294967295; const C = 0;", nil, []api.Named{constant("A", -1<<31), constant("B", 1<<32-1), constant("C", 0)}, nil)
}

// TestNoTree is C2: what is no tree of a source is told ahead of all else, at 0.
func TestNoTree(t *testing.T) {
	wrong := func(f func(x *api.Tree)) api.Tree {
		x, _, _ := syntax.Parse("const A = 1; const A = 2; struct s { s a; };")
		f(&x)
		x.At = 7
		return x
	}
	for i, x := range []api.Tree{
		{}, {Kind: api.NodeNumber, At: 5}, {Kind: -1}, {Kind: 1 << 40}, {Kind: api.NodeRef, Name: "a", At: 3},
		wrong(func(x *api.Tree) { x.Kind = api.NodeStruct }),
		wrong(func(x *api.Tree) { x.Name = "a" }),
		wrong(func(x *api.Tree) { x.Number = 1 }),
		wrong(func(x *api.Tree) { x.Kids[0].Kids = nil }),
		wrong(func(x *api.Tree) { x.Kids[2].Kids = nil }),
		wrong(func(x *api.Tree) { x.Kids[2].Kids[0].Kids = nil }),
		wrong(func(x *api.Tree) { x.Kids[2].Kids[0].Kids[0].Name = "int" }),
		wrong(func(x *api.Tree) { x.Kids[2].Kids[0].Kids[0].Kind = api.NodeNumber }),
		wrong(func(x *api.Tree) { x.Kids[2].Name = "" }),
		wrong(func(x *api.Tree) { x.Kids[2].Kind = api.NodeUnion }),
		wrong(func(x *api.Tree) { x.Kids[1].Kids[0].Number = 1 << 32 }),
		wrong(func(x *api.Tree) { x.Kids[1].Kids[0].Number = -1<<31 - 1 }),
		wrong(func(x *api.Tree) { x.Kids = append(x.Kids, api.Tree{Kind: api.NodeVoid}) }),
	} {
		if y, e, at := schema.Resolve(x); e != api.ErrSyntaxTree || at != 0 || !same(y, api.Schema{}) {
			t.Errorf("%d: %v, %d, %d", i, y, e, at)
		}
	}
	// With nothing done to it, it is a tree, and wrong where it says A again.
	if _, e, at := schema.Resolve(wrong(func(x *api.Tree) {})); e != api.ErrSchemaTwice || at != 19 {
		t.Errorf("%d, %d", e, at)
	}
}

// TestPlacesAreTheNodes: the place that is told is what the node says, whatever that is.
func TestPlacesAreTheNodes(t *testing.T) {
	for _, place := range []int{0, -1, 77, -1 << 63, 1<<63 - 1} {
		x, _, _ := syntax.Parse("struct s { t a; };")
		x.Kids[0].Kids[0].Kids[0].At = place
		if y, e, at := schema.Resolve(x); e != api.ErrSchemaNone || at != place || !same(y, api.Schema{}) {
			t.Errorf("%d: %v, %d, %d", place, y, e, at)
		}
		x, _, _ = syntax.Parse("typedef hyper a[126];")
		x.Kids[0].Kids[0].At = place
		if _, e, at := schema.Resolve(x); e != api.ErrSchemaRange || at != place {
			t.Errorf("%d: %d, %d", place, e, at)
		}
	}
}

// takers are the ways in which a name is taken; the mark is where its node stands.
var takers = []string{
	"const @X = 1;", "typedef int @X;", "typedef int @X[2];", "typedef int @X<>;", "typedef int *@X;", "typedef opaque @X[#];", "typedef string @X<#>;",
	"typedef struct { int a; } @X;", "typedef enum { M# = 1 } @X;",
	"enum @X { M# = 1 };", "enum e# { @X = 1 };", "enum e# { M# = 1, @X = 2 };", "struct @X { int a; };", "union @X switch (int a) { case 1: void; };",
	"typedef enum { @X = 1 } t#;", "struct s# { int a; enum { @X = 1 } b; };", "union u# switch (enum { @X = 1 } a) { case 1: void; };",
	"union u# switch (int a) { case 1: enum { @X = 1 } b; };", "union u# switch (int a) { case 1: int b; default: enum { @X = 1 } *c; };",
	"struct s# { struct { enum { @X = 1 } a<>; } b[2]; };",
	"program @X { version V { void N(void) = 0; } = 0; } = #;",
}

// taker is one of them, for a name, with a digit that makes all else in it its own.
func taker(form, name, digit string) string {
	return strings.ReplaceAll(strings.ReplaceAll(form, "X", name), "#", digit)
}

// TestOneSpace: each name that is taken stands in the way of each other one.
func TestOneSpace(t *testing.T) {
	for _, first := range takers {
		ahead := strings.Replace(taker(first, "x", "3"), "@", "", 1)
		wantRight(t, ahead)
		wantRight(t, ahead+strings.Replace(taker(first, "y", "4"), "@", "", 1))
		for _, second := range takers {
			wantWrong(t, ahead+taker(second, "x", "4"), api.ErrSchemaTwice)
			wantRight(t, ahead+strings.Replace(taker(second, "y", "4"), "@", "", 1))
			wantRight(t, ahead+strings.Replace(taker(second, "X", "4"), "@", "", 1))
		}
		for _, name := range []string{"TRUE", "FALSE"} {
			wantWrong(t, taker(first, name, "3"), api.ErrSchemaTwice)
		}
	}
}

// TestOwnSpaces: fields, arms, versions and procedures have names of their own.
func TestOwnSpaces(t *testing.T) {
	wantRight(t, "const A = 1; struct s { int s; int A; int TRUE; struct { int s; int A; } b; };")
	wantRight(t, "const A = 1; union u switch (int u) { case A: int A; case 2: int TRUE; default: union switch (int u) { case 1: int A; } FALSE; };")
	wantRight(t, "program P { version P { void P(void) = 0; int TRUE(void) = 1; } = 0; version TRUE { void P(void) = 0; } = 1; } = 0; const V = 1; program V1 { version P { void V(void) = 0; } = 0; } = 1;")
	wantRight(t, "struct s { int a; }; struct t { int a; s s; }; union u switch (int a) { case 1: int b; }; union v switch (int a) { case 1: int b; };")
	wantRight(t, "struct s { int x; struct { int x; struct { int x; } y; } y; }; enum e { x = 1 };")
	wantWrong(t, "struct s { int x; struct { int x; int @x; } y; };", api.ErrSchemaTwice)
	wantWrong(t, "struct s { int y; struct { int x; } @y; };", api.ErrSchemaTwice)
	wantWrong(t, "struct s { int a; hyper b; opaque @a<>; };", api.ErrSchemaTwice)
	wantWrong(t, "typedef struct { int a; hyper @a; } t;", api.ErrSchemaTwice)
	for _, d := range []string{"int @a", "int *@a", "int @a<>", "int @a[1]", "opaque @a[1]", "opaque @a<1>", "string @a<>", "struct { int a; } @a", "union switch (int a) { case 1: void; } @a", "enum { M = 1 } @a"} {
		wantWrong(t, "struct s { int a; "+d+"; };", api.ErrSchemaTwice)
		wantWrong(t, "union u switch (int a) { case 1: "+d+"; };", api.ErrSchemaTwice)
		wantWrong(t, "union u switch (int a) { case 1: void; default: "+d+"; };", api.ErrSchemaTwice)
		wantWrong(t, "union u switch (int d) { case 1: int a; case 2: "+d+"; };", api.ErrSchemaTwice)
		wantWrong(t, "union u switch (int d) { case 1: int a; case 2: void; default: "+d+"; };", api.ErrSchemaTwice)
		wantWrong(t, "typedef int a; typedef "+d+";", api.ErrSchemaTwice)
	}
	// Arms without names are not in one another's way.
	wantRight(t, "union u switch (int d) { case 1: void; case 2: void; default: void; };")
}

// TestNamesInTheirOrder: as they were taken: a body's ahead of what stands within, a typedef's behind it; programs are not there.
func TestNamesInTheirOrder(t *testing.T) {
	x := compiled(t, "typedef enum { A = 5, B = 6 } t; enum e { C = A, D = B }; const E = 1; program P { version V { t N(e) = 1; } = 1; } = 1; struct s { enum { F = 7 } f; struct { enum { G = 8 } g; } h; enum { H = 9 } i; }; union u switch (enum { I = 3 } d) { case I: enum { J = 4 } j; default: enum { K = 2 } k; }; typedef e v;")
	want := []api.Named{constant("A", 5), constant("B", 6), typed("t", 8), typed("e", 9), constant("C", 5), constant("D", 6), constant("E", 1), typed("s", 10), constant("F", 7), constant("G", 8), constant("H", 9), typed("u", 15), constant("I", 3), constant("J", 4), constant("K", 2), typed("v", 9)}
	if !reflect.DeepEqual(x.Names, want) {
		t.Errorf("%v, not %v", x.Names, want)
	}
}

// TestOrderOfTheMapIsNotSeen: the same source says the same each time.
func TestOrderOfTheMapIsNotSeen(t *testing.T) {
	var s strings.Builder
	for _, a := range "abcdefghij" {
		for _, b := range "abcdefghi" {
			s.WriteString("const " + string(a) + string(b) + " = 1;")
		}
	}
	x := compiled(t, s.String())
	for range 20 {
		if y := compiled(t, s.String()); !reflect.DeepEqual(x, y) {
			t.Fatal("not the same")
		}
	}
}

// TestPlacesOfTypes: a struct's and a union's place is below those within, if it is defined; all others' are above.
func TestPlacesOfTypes(t *testing.T) {
	wantSays(t, "struct s { struct { opaque a<5>; } b[2]; int *c; };",
		[]api.Type{
			structOf(api.Field{Name: "b", Type: 11}, api.Field{Name: "c", Type: 12}),
			sized(api.Opaque, 5, 0),
			structOf(api.Field{Name: "a", Type: 9}),
			sized(api.Array, 2, 10),
			sized(api.Maybe, 0, 1),
		}, []api.Named{typed("s", 8)}, nil)
	wantSays(t, "union u switch (enum { A = 1, B = 2 } d) { case B: string a<>; case A: u *b; default: union switch (unsigned int e) { case 4294967295: void; } c; };",
		[]api.Type{
			unionOf(9, 2, api.Arm{Cases: []int{2}, Name: "a", Type: 10}, api.Arm{Cases: []int{1}, Name: "b", Type: 11}, api.Arm{Name: "c", Type: 12}),
			enumOf(api.Member{Name: "A", Number: 1}, api.Member{Name: "B", Number: 2}),
			sized(api.String, api.MaxWord, 0),
			sized(api.Maybe, 0, 8),
			unionOf(2, -1, api.Arm{Cases: []int{1<<32 - 1}}),
		}, []api.Named{typed("u", 8), constant("A", 1), constant("B", 2)}, nil)
	wantSays(t, "typedef int a; typedef a b; typedef b c[3]; typedef c *d; typedef d e<7>; typedef struct { e f; } g; typedef g h;",
		[]api.Type{sized(api.Array, 3, 1), sized(api.Maybe, 0, 8), sized(api.List, 7, 9), structOf(api.Field{Name: "f", Type: 10})},
		[]api.Named{typed("a", 1), typed("b", 1), typed("c", 8), typed("d", 9), typed("e", 10), typed("g", 11), typed("h", 11)}, nil)
	wantSays(t, "struct s { int a; unsigned int b; hyper c; unsigned hyper d; float e; double f; bool g; };",
		[]api.Type{structOf(api.Field{Name: "a", Type: 1}, api.Field{Name: "b", Type: 2}, api.Field{Name: "c", Type: 3}, api.Field{Name: "d", Type: 4}, api.Field{Name: "e", Type: 5}, api.Field{Name: "f", Type: 6}, api.Field{Name: "g", Type: 7})},
		[]api.Named{typed("s", 8)}, nil)
}

// TestProgramSays: results, arguments, the same names and numbers where they may be.
func TestProgramSays(t *testing.T) {
	wantSays(t, "typedef opaque h<>; program P { version V { h A(h, int, bool, double) = 4294967295; void B(float) = 1; unsigned hyper C(void) = 2; void D(void) = 3; } = 0; version W { void A(void) = 0; } = 4294967295; } = 0; program Q { version V { int A(void) = 4294967295; } = 0; } = 4294967295;",
		[]api.Type{sized(api.Opaque, api.MaxWord, 0)}, []api.Named{typed("h", 8)},
		[]api.Program{
			{Name: "P", Number: 0, Versions: []api.Version{
				{Name: "V", Number: 0, Procs: []api.Proc{
					{Name: "A", Number: 1<<32 - 1, Args: []int{8, 1, 7, 6}, Result: 8},
					{Name: "B", Number: 1, Args: []int{5}},
					{Name: "C", Number: 2, Result: 4},
					{Name: "D", Number: 3},
				}},
				{Name: "W", Number: 1<<32 - 1, Procs: []api.Proc{{Name: "A"}}},
			}},
			{Name: "Q", Number: 1<<32 - 1, Versions: []api.Version{{Name: "V", Procs: []api.Proc{{Name: "A", Number: 1<<32 - 1, Result: 1}}}}},
		})
}

package schema_test

import (
	"strings"
	"testing"

	"callbox/api"
)

// known is a source whose names stand for one thing of each kind.
const known = "const one = 1; typedef int alias; typedef opaque bytes<>; enum color { RED = 1, BLUE = 2 }; struct point { int x; int y; }; union shape switch (bool b) { case TRUE: point p; default: void; }; program PROG { version V { void N(void) = 0; } = 1; } = 1; "

// typePlaces are the places at which a type is written; the mark is where it begins.
var typePlaces = []string{
	"typedef @# t;", "typedef @# t[2];", "typedef @# t<>;", "typedef @# t<2>;", "typedef @# *t;",
	"struct s { @# a; };", "struct s { int b; @# a[2]; };", "struct s { @# a<>; };", "struct s { @# *a; };",
	"struct s { struct { @# a; } b; };", "struct s { struct { struct { @# a; } b<>; } *c; };", "typedef struct { @# a; } t;",
	"union u switch (int d) { case 1: @# a; };", "union u switch (int d) { case 1: void; case 2: @# *a; };", "union u switch (int d) { case 1: void; default: @# a<3>; };",
	"struct s { union switch (int d) { case 1: @# a; } b; };", "typedef union switch (int d) { case 1: int a; default: @# b; } t;",
	"program P { version W { @# A(void) = 1; } = 2; } = 2;", "program P { version W { int A(@#) = 1; } = 2; } = 2;",
	"program P { version W { int A(int, hyper, bool, @#) = 1; } = 2; } = 2;", "program P { version W { int A(void) = 1; } = 2; version X { void A(int, @#, int) = 1; } = 3; } = 2;",
}

// firstPlaces are those at which only a type that tells arms apart is right.
var firstPlaces = []string{
	"union u switch (@# d) { case 1: void; };", "struct s { union switch (@# d) { case 1: void; } a; };", "typedef union switch (@# d) { case 1: void; default: int a; } *t;",
	"struct s { struct { union switch (@# d) { case 1: void; } a; } b<>; };",
}

func fill(form, with string) string { return strings.ReplaceAll(form, "#", with) }

func unmarked(marked string) string { return strings.ReplaceAll(marked, "@", "") }

// TestTypesOfNames: at each place a name must stand, and for a type.
func TestTypesOfNames(t *testing.T) {
	for _, form := range append(typePlaces, firstPlaces...) {
		for _, name := range []string{"none", "One", "N", "V", "x", "b", "p", "later"} {
			wantWrong(t, known+fill(form, name), api.ErrSchemaNone)
		}
		for _, name := range []string{"one", "RED", "BLUE", "TRUE", "FALSE", "PROG"} {
			wantWrong(t, known+fill(form, name), api.ErrSchemaKind)
		}
		for _, name := range []string{"alias", "color", "int", "bool", "unsigned int"} {
			wantRight(t, known+unmarked(fill(form, name)))
		}
	}
	for _, form := range typePlaces {
		for _, name := range []string{"bytes", "point", "shape", "hyper", "unsigned hyper", "float", "double"} {
			wantRight(t, known+unmarked(fill(form, name)))
		}
	}
	// What a program is called stands already within it; a typedef's name does not.
	wantWrong(t, "program P { version W { @P A(void) = 1; } = 2; } = 2;", api.ErrSchemaKind)
	wantWrong(t, "program P { version W { int A(@W) = 1; } = 2; } = 2;", api.ErrSchemaNone)
	wantWrong(t, "typedef @t t;", api.ErrSchemaNone)
	wantWrong(t, "typedef @t *t;", api.ErrSchemaNone)
	wantWrong(t, "typedef struct { @t *a; } t;", api.ErrSchemaNone)
	wantWrong(t, "struct s { @u *a; }; struct u { s *a; };", api.ErrSchemaNone)
	wantWrong(t, "struct s { enum { A = 1 } a; @A b; };", api.ErrSchemaKind)
	wantWrong(t, "enum e { A = @e };", api.ErrSchemaKind)
}

// TestFirstDeclarations: that of a union must be plain, and of a type that tells arms apart.
func TestFirstDeclarations(t *testing.T) {
	for _, name := range []string{"bytes", "point", "shape", "hyper", "unsigned hyper", "float", "double", "struct { int a; }", "union switch (int d) { case 1: void; }"} {
		for _, form := range firstPlaces {
			wantWrong(t, known+fill(form, name), api.ErrSchemaKind)
		}
	}
	for _, form := range []string{"union u switch (#) { case 1: void; };", "struct s { union switch (#) { case 9: void; } a; };"} {
		for _, d := range []string{"@void", "int @d[1]", "int @d<>", "int *@d", "opaque @d[2]", "opaque @d<>", "string @d<>", "none @d[1]", "one *@d", "struct { void; } @d<none>", "enum { A = 1, A = 2 } *@d", "u @d[2]", "bool @d[0]"} {
			wantWrong(t, known+fill(form, d), api.ErrSchemaKind)
		}
	}
	wantRight(t, "union u switch (enum { A = 1 } d) { case A: void; };")
	wantRight(t, "typedef enum { A = 7 } e; typedef e f; union u switch (f d) { case 7: void; };")
	wantWrong(t, "union u switch (struct { @void; } d) { case 1: void; };", api.ErrSchemaVoid)
	wantWrong(t, "union u switch (enum { A = 1, B = @1 } d) { case 1: void; };", api.ErrSchemaCase)
	// The body itself is no type to tell arms apart by, also where it may stand.
	wantWrong(t, "struct s { union switch (@s d) { case 1: void; } *a; };", api.ErrSchemaKind)
	wantWrong(t, "union u switch (int d) { case 1: union switch (@u d) { case 1: void; } a<>; };", api.ErrSchemaKind)
}

// valuePlaces are the places at which a value is written, 1 and 2 being right ones.
var valuePlaces = []string{
	"enum e { A = @# };", "enum e { A = 7, B = @# };", "typedef enum { A = @# } t;", "struct s { enum { A = @# } a; };",
	"typedef int t[@#];", "typedef opaque t[@#];", "typedef int t<@#>;", "typedef opaque t<@#>;", "typedef string t<@#>;",
	"struct s { int a[@#]; };", "struct s { s a<@#>; };", "union u switch (int d) { case 7: int a[@#]; };", "union u switch (int d) { case 7: void; default: string a<@#>; };",
	"union u switch (int d) { case @#: void; };", "union u switch (int d) { case 7: case @#: void; };", "union u switch (color d) { case @#: void; };",
	"struct s { union switch (unsigned int d) { case 7: void; case 8: case 9: case @#: int a; default: void; } *a; };",
}

func TestValuesOfNames(t *testing.T) {
	for _, form := range valuePlaces {
		for _, name := range []string{"none", "One", "N", "V", "x", "later", "true"} {
			wantWrong(t, known+fill(form, name), api.ErrSchemaNone)
		}
		for _, name := range []string{"alias", "bytes", "color", "point", "shape", "PROG"} {
			wantWrong(t, known+fill(form, name), api.ErrSchemaKind)
		}
		for _, name := range []string{"one", "RED", "BLUE", "TRUE", "1", "2", "0x2"} {
			wantRight(t, known+unmarked(fill(form, name)))
		}
	}
	// A member stands behind its own value, and ahead of the next one's.
	wantWrong(t, "enum e { A = @A };", api.ErrSchemaNone)
	wantWrong(t, "enum e { A = 1, B = @C, C = 2 };", api.ErrSchemaNone)
	wantWrong(t, "struct s { enum { A = 1 } a; int b[A]; int c[@B]; enum { B = 1 } d; };", api.ErrSchemaNone)
	wantRight(t, "struct s { enum { A = 4 } a; int b[A]; union switch (int d) { case A: enum { B = A } e; case 5: int f<B>; } c; };")
	wantRight(t, "typedef enum { A = 4 } t[A];")
	wantRight(t, "enum e { A = TRUE, B = FALSE };")
	x := compiled(t, "const A = 5; enum e { B = A, C = 6, D = FALSE }; typedef int t[C]; union u switch (int d) { case A: case C: case D: void; };")
	if x.Types[9].Size != 6 || x.Types[8].Members[2].Number != 0 || x.Types[10].Arms[0].Cases[1] != 6 {
		t.Errorf("%v", x)
	}
}

// TestTypesWithinThemselves: only below a list or a maybe.
func TestTypesWithinThemselves(t *testing.T) {
	for _, marked := range []string{
		"struct s { @s a; };", "struct s { int b; @s a; };", "struct s { @s a[1]; };", "struct s { struct { @s a; } b; };", "struct s { struct { @s a[3]; } b[2]; };",
		"struct s { s *a; s b<>; @s c; };", "struct s { struct { int a; } *b; @s c; };", "struct s { struct { s *a; @s b; } c; };", "struct s { struct { int a; } b<>; struct { @s c; } d; };",
		"struct s { union switch (int d) { case 1: @s a; } b; };", "struct s { union switch (int d) { case 1: void; default: @s a; } b; };",
		"union u switch (@u d) { case 1: void; };", "union u switch (int d) { case 1: @u a; };", "union u switch (int d) { case 1: void; case 2: @u a[2]; };", "union u switch (int d) { case 1: void; default: @u a; };",
		"union u switch (int d) { case 1: u *a; default: struct { u *a; u b<>; struct { @u c; } d; } b; };",
		"struct r { r *a; }; struct s { r *b; @s c; };",
	} {
		wantWrong(t, marked, api.ErrSchemaLoop)
	}
	for _, s := range []string{
		"struct s { s *a; };", "struct s { s a<>; };", "struct s { s a<0>; };", "struct s { struct { s a; } *b; };", "struct s { struct { s a[3]; } b<>; };", "struct s { struct { struct { s a; } b; } c<1>; };",
		"struct s { struct { union switch (int d) { case 1: s a; default: s b[2]; } c; } *d; };",
		"union u switch (int d) { case 1: u *a; default: u b<>; };", "union u switch (int d) { case 1: struct { u a; } *b; };",
		"struct r { r *a; }; struct s { r b; r c[2]; s *d; };",
	} {
		wantRight(t, s)
	}
	x := compiled(t, "struct r { int a; }; struct s { struct { s a[3]; } *b; };")
	if x.Types[10].Kind != api.Array || x.Types[10].Of != 9 || x.Types[12].Kind != api.Maybe || x.Types[12].Of != 11 {
		t.Errorf("%v", x.Types)
	}
}

func TestVoidFields(t *testing.T) {
	wantWrong(t, "struct s { @void; int a; };", api.ErrSchemaVoid)
	wantWrong(t, "struct s { int a; @void; };", api.ErrSchemaVoid)
	wantWrong(t, "struct s { struct { @void; } a; };", api.ErrSchemaVoid)
	wantWrong(t, "typedef struct { int a; @void; } t;", api.ErrSchemaVoid)
	wantWrong(t, "union u switch (int d) { case 1: struct { int a; struct { @void; } b; } c; };", api.ErrSchemaVoid)
}

// TestSizes: 0, 1, 1000, 1001 and the bounds of numbers, written out and as constants.
func TestSizes(t *testing.T) {
	type sizes struct {
		form  string
		right []string
		wrong []string
	}
	for _, c := range []sizes{
		{"typedef opaque t[@#];", []string{"1", "2", "999", "1000", "0x3e8"}, []string{"0", "-1", "1001", "1002", "-2147483648", "2147483648", "4294967295"}},
		{"typedef int t[@#];", []string{"1", "2", "249", "250"}, []string{"0", "-1", "1001", "4294967295"}},
		{"struct s { struct { bool a[@#]; } b; };", []string{"1", "250"}, []string{"0", "1001", "-1"}},
		{"typedef opaque t<@#>;", []string{"0", "1", "1000", "1001", "4294967295"}, []string{"-1", "-2147483648"}},
		{"typedef string t<@#>;", []string{"0", "1", "1000", "1001", "4294967295"}, []string{"-1", "-2147483648"}},
		{"typedef hyper t<@#>;", []string{"0", "1", "1000", "1001", "4294967295"}, []string{"-1", "-2147483648"}},
		{"union u switch (int d) { case 1: void; default: u t<@#>; };", []string{"0", "1", "4294967295"}, []string{"-1"}},
	} {
		for _, n := range c.right {
			wantRight(t, unmarked(fill(c.form, n)))
			wantRight(t, "const N = "+n+";"+unmarked(fill(c.form, "N")))
		}
		for _, n := range c.wrong {
			wantWrong(t, fill(c.form, n), api.ErrSchemaRange)
			wantWrong(t, "const N = "+n+";"+fill(c.form, "N"), api.ErrSchemaRange)
		}
	}
	// From 251 on, the size may be, but not the value.
	for _, n := range []string{"251", "252", "999", "1000"} {
		wantWrong(t, "typedef int @t["+n+"];", api.ErrSchemaRange)
	}
	wantSays(t, "typedef opaque a[1000]; typedef opaque b<0>; typedef string c<1001>; typedef int d<0>; typedef int e<>; typedef bool f[250];",
		[]api.Type{sized(api.Fixed, 1000, 0), sized(api.Opaque, 0, 0), sized(api.String, 1001, 0), sized(api.List, 0, 1), sized(api.List, 1<<32-1, 1), sized(api.Array, 250, 7)},
		[]api.Named{typed("a", 8), typed("b", 9), typed("c", 10), typed("d", 11), typed("e", 12), typed("f", 13)}, nil)
}

// TestMembers: their numbers are those of an Int, all unlike.
func TestMembers(t *testing.T) {
	wantRight(t, "enum e { A = -2147483648, B = 2147483647, C = 0, D = -1 };")
	for _, n := range []string{"2147483648", "4294967295"} {
		for _, form := range []string{"enum e { A = @# };", "enum e { A = 1, B = @#, C = 2 };", "struct s { enum { A = @# } a; };"} {
			wantWrong(t, fill(form, n), api.ErrSchemaRange)
			wantWrong(t, "const N = "+n+";"+fill(form, "N"), api.ErrSchemaRange)
		}
	}
	wantWrong(t, "enum e { A = 1, B = @1 };", api.ErrSchemaCase)
	wantWrong(t, "enum e { A = 1, B = 2, C = @0x1 };", api.ErrSchemaCase)
	wantWrong(t, "enum e { A = 0, B = @FALSE };", api.ErrSchemaCase)
	wantWrong(t, "enum e { A = -1, B = 1, C = @-1 };", api.ErrSchemaCase)
	wantWrong(t, "typedef enum { A = 1, B = @A } t;", api.ErrSchemaCase)
	wantRight(t, "enum e { A = 1 }; enum f { B = 1 }; struct s { enum { C = 1 } a; enum { D = C } b; };")
}

// TestCases: numbers of the discriminant's type, none of them twice in one union.
func TestCases(t *testing.T) {
	type cases struct {
		of    string
		right []string
		wrong []string
	}
	for _, c := range []cases{
		{"int", []string{"-2147483648", "-1", "0", "1", "2147483647"}, []string{"2147483648", "4294967295"}},
		{"unsigned int", []string{"0", "1", "2147483648", "4294967295"}, []string{"-1", "-2147483648"}},
		{"bool", []string{"0", "1", "TRUE", "FALSE"}, []string{"2", "-1", "4294967295"}},
		{"color", []string{"1", "2", "RED", "BLUE", "one", "TRUE"}, []string{"0", "3", "-1", "FALSE", "-2147483648", "4294967295"}},
		{"alias", []string{"-2147483648", "2147483647"}, []string{"2147483648"}},
		{"enum { X = -5, Y = 5 }", []string{"-5", "5", "X", "Y"}, []string{"0", "-4", "4", "6", "one", "BLUE"}},
	} {
		for _, form := range []string{
			"union u switch (" + c.of + " d) { case @#: void; };",
			"union u switch (" + c.of + " d) { case @#: int a; default: int b; };",
			"struct s { int a; union switch (" + c.of + " d) { case @#: void; } *b; };",
		} {
			for _, n := range c.right {
				wantRight(t, known+unmarked(fill(form, n)))
			}
			for _, n := range c.wrong {
				wantWrong(t, known+fill(form, n), api.ErrSchemaCase)
			}
		}
		for _, n := range c.right {
			wantWrong(t, known+"union u switch ("+c.of+" d) { case "+n+": case @"+n+": void; };", api.ErrSchemaCase)
			wantWrong(t, known+"union u switch ("+c.of+" d) { case "+n+": int a; case @"+n+": int b; };", api.ErrSchemaCase)
		}
	}
	wantWrong(t, "union u switch (int d) { case 1: case 2: void; case 3: void; case 4: case @2: void; };", api.ErrSchemaCase)
	wantWrong(t, "union u switch (bool d) { case 1: void; case FALSE: case @TRUE: void; };", api.ErrSchemaCase)
	wantRight(t, "union u switch (int d) { case 1: union switch (int d) { case 1: void; case 2: void; } a; case 2: void; };")
	wantSays(t, "union u switch (int d) { case 3: case -1: void; case 2: int a; default: hyper b; };",
		[]api.Type{unionOf(1, 2, api.Arm{Cases: []int{3, -1}}, api.Arm{Cases: []int{2}, Name: "a", Type: 1}, api.Arm{Name: "b", Type: 3})}, []api.Named{typed("u", 8)}, nil)
}

// TestProgramFaults: names and numbers of programs, versions and procedures; the procedure 0.
func TestProgramFaults(t *testing.T) {
	const null = "void N(void) = 0;"
	version := func(name, number string) string { return "version " + name + " { " + null + " } = " + number + "; " }
	program := func(name, number string) string {
		return "program " + name + " { " + version("V", "1") + " } = " + number + "; "
	}
	wantRight(t, program("P", "1")+program("Q", "2")+program("R", "0")+program("S", "4294967295"))
	wantWrong(t, program("P", "1")+program("Q", "2")+program("R", "@1"), api.ErrSchemaNumber)
	wantWrong(t, program("P", "0")+"const A = 1;"+program("Q", "@0"), api.ErrSchemaNumber)
	wantWrong(t, program("P", "16")+program("Q", "@0x10"), api.ErrSchemaNumber)
	within := func(parts ...string) string { return "program P { " + strings.Join(parts, "") + "} = 9;" }
	wantRight(t, within(version("V", "1"), version("W", "2"), version("X", "9")))
	wantWrong(t, within(version("V", "1"), version("W", "2"), version("@V", "3")), api.ErrSchemaTwice)
	wantWrong(t, within(version("V", "1"), version("W", "2"), version("X", "@1")), api.ErrSchemaNumber)
	wantWrong(t, within(version("V", "1"), version("W", "@1"), version("V", "1")), api.ErrSchemaNumber)
	procs := func(parts ...string) string { return within("version V { " + strings.Join(parts, " ") + " } = 1;") }
	wantRight(t, procs("int A(void) = 1;", "int B(void) = 2;", null))
	wantWrong(t, procs("int A(void) = 1;", "int B(void) = 2;", "void @A(int) = 3;"), api.ErrSchemaTwice)
	wantWrong(t, procs("int A(void) = 1;", "int B(void) = 2;", "void C(int) = @1;"), api.ErrSchemaNumber)
	wantWrong(t, procs(null, "void M(void) = @0;"), api.ErrSchemaNumber)
	wantWrong(t, procs("int @N(void) = 0;"), api.ErrSchemaVoid)
	wantWrong(t, procs("void @N(int) = 0;"), api.ErrSchemaVoid)
	wantWrong(t, procs("hyper @N(int, bool) = 0;"), api.ErrSchemaVoid)
	wantWrong(t, procs("int A(void) = 1;", "void @B(int) = 00;"), api.ErrSchemaVoid)
	wantWrong(t, "typedef int t; "+procs("t @N(void) = 0;"), api.ErrSchemaVoid)
	wantRight(t, procs("void A(void) = 1;", "void B(int) = 2;", "int C(void) = 3;"))
}

// TestWhichIsToldFirst: of two that are wrong, the mark stands at the one that is gone through ahead.
func TestWhichIsToldFirst(t *testing.T) {
	for _, c := range []struct {
		marked string
		why    api.Errno
	}{
		// A declaration: its type; its name; its value; then its size, and how many types there are.
		{"typedef int t; typedef @none t[none];", api.ErrSchemaNone},
		{"typedef int t; typedef int @t[none];", api.ErrSchemaTwice},
		{"typedef int t; typedef int @t[0];", api.ErrSchemaTwice},
		{"typedef int t; typedef hyper @t[126];", api.ErrSchemaTwice},
		{"typedef @none t[none];", api.ErrSchemaNone},
		{"typedef @TRUE t[none];", api.ErrSchemaKind},
		{"struct s { int a; @none a[0]; };", api.ErrSchemaNone},
		{"struct s { int a; @s a[0]; };", api.ErrSchemaLoop},
		{"struct s { int a; int @a[0]; };", api.ErrSchemaTwice},
		{"struct s { int a; int @a<none>; };", api.ErrSchemaTwice},
		{"struct s { int a; struct { @void; } a; };", api.ErrSchemaVoid},
		{"struct s { @s b[0]; };", api.ErrSchemaLoop},
		{"struct s { @void; none a; };", api.ErrSchemaVoid},
		{"typedef int t; typedef enum { A = 1, B = @1 } t;", api.ErrSchemaCase},
		{"typedef enum { t = 1 } @t;", api.ErrSchemaTwice},
		{"typedef enum { t = 1 } @t[0];", api.ErrSchemaTwice},
		{"typedef struct { enum { t = 1 } a; } *@t;", api.ErrSchemaTwice},
		// A body: its name, then what stands within.
		{"const s = 1; struct @s { void; };", api.ErrSchemaTwice},
		{"const e = 1; enum @e { A = none };", api.ErrSchemaTwice},
		{"const u = 1; union @u switch (void) { case none: void; };", api.ErrSchemaTwice},
		{"enum e { @e = none };", api.ErrSchemaTwice},
		{"struct s { enum { @s = none } a; };", api.ErrSchemaTwice},
		// A member: its name; its value; its range; whether it is there.
		{"const A = 1; enum e { @A = none };", api.ErrSchemaTwice},
		{"const A = 1; enum e { B = 3, @A = 3 };", api.ErrSchemaTwice},
		{"const A = 1; enum e { @A = 4294967295 };", api.ErrSchemaTwice},
		{"enum e { A = 1, B = @none, B = 1 };", api.ErrSchemaNone},
		{"enum e { A = 1, B = @1, A = 2 };", api.ErrSchemaCase},
		{"enum e { A = 1, B = @4294967295, C = 4294967295 };", api.ErrSchemaRange},
		// A union: its first declaration, its arms one by one, their cases ahead of their declarations.
		{"union u switch (int *@d) { case none: u d; };", api.ErrSchemaKind},
		{"union u switch (none *@d) { case none: u d; };", api.ErrSchemaKind},
		{"union u switch (@none d) { case none: u d; };", api.ErrSchemaNone},
		{"union u switch (@u d) { case none: u d; };", api.ErrSchemaLoop},
		{"union u switch (@hyper d) { case none: u d; };", api.ErrSchemaKind},
		{"union u switch (bool d) { case @2: case none: u d; };", api.ErrSchemaCase},
		{"union u switch (bool d) { case @none: case 2: u d; };", api.ErrSchemaNone},
		{"union u switch (bool d) { case @u: case 2: u d; };", api.ErrSchemaKind},
		{"union u switch (bool d) { case 1: case @1: u d; };", api.ErrSchemaCase},
		{"union u switch (bool d) { case 1: @u d; case 1: void; };", api.ErrSchemaLoop},
		{"union u switch (bool d) { case 1: int @d[none]; case 1: void; };", api.ErrSchemaTwice},
		{"union u switch (bool d) { case 1: @none d[none]; case 1: void; };", api.ErrSchemaNone},
		{"union u switch (bool d) { case 1: int a; case 0: int @a[0]; };", api.ErrSchemaTwice},
		{"union u switch (bool d) { case 1: int a; case @1: int a; };", api.ErrSchemaCase},
		{"union u switch (bool d) { case 1: int a; case @2: int a; default: none b; };", api.ErrSchemaCase},
		{"union u switch (bool d) { case 1: int a; default: @none a; };", api.ErrSchemaNone},
		// A program: its name; its versions; its number.
		{"const P = 1; program @P { version V { none A(void) = 1; } = 1; } = 1;", api.ErrSchemaTwice},
		{"program O { version V { int A(void) = 1; } = 1; } = 1; program P { version V { @none A(void) = 1; } = 1; } = 1;", api.ErrSchemaNone},
		{"program O { version V { int A(void) = 1; } = 1; } = 1; program P { version V { int A(void) = 1; } = 1; version @V { none A(void) = 1; } = 1; } = 1;", api.ErrSchemaTwice},
		{"program P { version V { int A(void) = 1; } = 1; version W { @none A(void) = 1; } = 1; } = 1;", api.ErrSchemaNone},
		{"program O { version V { int A(void) = 1; } = 1; } = 1; program P { version V { int A(void) = 1; } = 1; version W { int A(void) = 1; } = @1; } = 1;", api.ErrSchemaNumber},
		// A procedure: its result; its name; its arguments; its number; whether it is the one that has nothing.
		{"program P { version V { int A(void) = 1; @none A(none) = 1; } = 1; } = 1;", api.ErrSchemaNone},
		{"program P { version V { int A(void) = 1; int @A(none) = 1; } = 1; } = 1;", api.ErrSchemaTwice},
		{"program P { version V { int A(void) = 1; int B(int, @none, TRUE) = 1; } = 1; } = 1;", api.ErrSchemaNone},
		{"program P { version V { int A(void) = 1; int B(int, @TRUE, none) = 1; } = 1; } = 1;", api.ErrSchemaKind},
		{"program P { version V { @none A(none) = 0; } = 1; } = 1;", api.ErrSchemaNone},
		{"program P { version V { void N(void) = 0; int A(int) = @0; } = 1; } = 1;", api.ErrSchemaNumber},
		{"program P { version V { int @A(void) = 0; none A(none) = 0; } = 1; } = 1;", api.ErrSchemaVoid},
		// At the end of a definition: what is wrong within is told ahead of what is too great.
		{"struct s { hyper a[126]; @none b; };", api.ErrSchemaNone},
		{"struct s { hyper a[126]; int @a; };", api.ErrSchemaTwice},
		{"struct s { hyper a[126]; int b[@0]; };", api.ErrSchemaRange},
		{"typedef hyper @a[126]; typedef none b;", api.ErrSchemaRange},
		{"struct s { hyper @a[126]; }; struct s { int a; };", api.ErrSchemaRange},
	} {
		wantWrong(t, c.marked, c.why)
	}
}

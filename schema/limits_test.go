package schema_test

import (
	"fmt"
	"strconv"
	"strings"
	"testing"

	"callbox/api"
	"callbox/schema"
)

// full is a source of so many types, in as few definitions as 64 fields allow.
func full(t *testing.T, types int) string {
	t.Helper()
	var b strings.Builder
	for i := 0; types > 8; i++ {
		inner := min(types-9, 64)
		if inner == 0 {
			b.WriteString("enum full" + strconv.Itoa(i) + "{FULL=1};")
		} else {
			b.WriteString("struct full" + strconv.Itoa(i) + "{")
			for k := range inner {
				b.WriteString("int*f" + strconv.Itoa(k) + ";")
			}
			b.WriteString("};")
		}
		types -= inner + 1
	}
	return b.String()
}

// newTypes are the ways in which one type is made, and the node that writes it; of some one more is made ahead of it, if their digit is 2.
var newTypes = []struct {
	marked string
	makes  int
}{
	{"typedef opaque @a[1];", 1}, {"typedef opaque @a<>;", 1}, {"typedef string @a<3>;", 1}, {"typedef int @a[2];", 1}, {"typedef int @a<>;", 1}, {"typedef int *@a;", 1},
	{"typedef @enum { A = 1 } a;", 1}, {"typedef @struct { int x; } a;", 1}, {"typedef @union switch (int d) { case 1: void; } a;", 1},
	{"enum @a { A = 1 };", 1}, {"struct @a { int x; };", 1}, {"union @a switch (int d) { case 1: void; };", 1},
	{"struct a { int *@x; };", 2}, {"struct a { @struct { int x; } x; };", 2}, {"struct a { @enum { A = 1 } x; };", 2}, {"struct a { @union switch (int d) { case 1: void; } x; };", 2},
	{"union a switch (@enum { A = 1 } d) { case 1: void; };", 2}, {"union a switch (int d) { case 1: a *@x; };", 2}, {"union a switch (int d) { case 1: void; default: opaque @x[4]; };", 2},
	{"typedef struct { int x; } *@a;", 2}, {"typedef enum { A = 1 } @a[2];", 2}, {"typedef union switch (int d) { case 1: void; } @a<>;", 2},
	{"typedef @struct { int *x; } a;", 2}, {"typedef @union switch (enum { A = 1 } d) { case 1: void; } a;", 2}, {"typedef @union switch (int d) { case 1: string x<>; } a;", 2},
}

// TestAsManyTypesAsMayBe: 400, and one more, which is told at the node that writes it.
func TestAsManyTypesAsMayBe(t *testing.T) {
	for _, c := range newTypes {
		s := unmarked(c.marked)
		if x := compiled(t, s); len(x.Types) != 8+c.makes {
			t.Errorf("%s: %d types", s, len(x.Types))
		}
		for _, n := range []int{9, 200, api.MaxTypes - c.makes - 1, api.MaxTypes - c.makes} {
			if x := compiled(t, full(t, n)+s); len(x.Types) != n+c.makes {
				t.Errorf("%s behind %d types: %d", s, n, len(x.Types))
			}
		}
		wantWrong(t, full(t, api.MaxTypes-c.makes+1)+c.marked, api.ErrSchemaMany)
	}
	// What makes no type is right behind 400.
	s := full(t, api.MaxTypes)
	wantRight(t, s+"typedef int a; typedef full0 b; const A = 1; program P { version V { a N(b) = 1; } = 1; } = 1;")
}

// TestWhenTypesAreTooMany: which is told first.
func TestWhenTypesAreTooMany(t *testing.T) {
	s := "const N = 1; " + full(t, api.MaxTypes)
	for _, c := range []struct {
		marked string
		why    api.Errno
	}{
		{"struct @N { void; };", api.ErrSchemaTwice},
		{"struct @a { void; };", api.ErrSchemaMany},
		{"struct @a { opaque b[0]; };", api.ErrSchemaMany},
		{"enum @N { N = 1 };", api.ErrSchemaTwice},
		{"enum @a { N = 1 };", api.ErrSchemaMany},
		{"union @a switch (void) { case none: void; };", api.ErrSchemaMany},
		{"typedef int @N[0];", api.ErrSchemaTwice},
		{"typedef int a[@0];", api.ErrSchemaRange},
		{"typedef int a<@-1>;", api.ErrSchemaRange},
		{"typedef int a<@none>;", api.ErrSchemaNone},
		{"typedef @none *a;", api.ErrSchemaNone},
		{"typedef int *@N;", api.ErrSchemaTwice},
		{"typedef hyper @a[126];", api.ErrSchemaMany},
		{"typedef struct { @void; } a;", api.ErrSchemaVoid},
		{"typedef @struct { int a; } N;", api.ErrSchemaMany},
		{"typedef struct { int *@x; } a;", api.ErrSchemaMany},
		{"typedef enum { A = @none } a;", api.ErrSchemaNone},
		{"typedef @enum { A = 1 } a[0];", api.ErrSchemaMany},
		{"typedef union switch (@hyper d) { case 1: void; } a;", api.ErrSchemaKind},
		{"typedef union switch (@enum { A = 1 } d) { case 2: void; } a;", api.ErrSchemaMany},
		{"typedef union switch (@struct { int a; } d) { case 2: void; } a;", api.ErrSchemaMany},
		{"typedef union switch (int d) { case N: case @N: void; } a;", api.ErrSchemaCase},
	} {
		wantWrong(t, s+c.marked, c.why)
	}
	// Types that would be too great are told at the end of their definition: that is ahead of the next one's.
	wantWrong(t, full(t, api.MaxTypes-1)+"typedef hyper @a[126]; typedef int *b;", api.ErrSchemaRange)
	wantWrong(t, full(t, api.MaxTypes-2)+"struct a { hyper b[126]; int *@c; };", api.ErrSchemaMany)
}

// measured are types, with the bytes and the depth of their least values.
var measured = []struct {
	ahead, written string
	bytes, depth   int
}{
	{"", "int a", 4, 1}, {"", "unsigned int a", 4, 1}, {"", "hyper a", 8, 1}, {"", "unsigned hyper a", 8, 1}, {"", "float a", 4, 1}, {"", "double a", 8, 1}, {"", "bool a", 4, 1},
	{"", "enum { A = 7 } a", 4, 1}, {"enum e { A = 1, B = 2 };", "e a", 4, 1},
	{"", "opaque a[1]", 4, 1}, {"", "opaque a[3]", 4, 1}, {"", "opaque a[4]", 4, 1}, {"", "opaque a[5]", 8, 1}, {"", "opaque a[980]", 980, 1},
	{"", "opaque a[981]", 984, 1}, {"", "opaque a<>", 4, 1}, {"", "opaque a<9>", 4, 1}, {"", "string a<>", 4, 1}, {"", "string a<0>", 4, 1},
	{"", "int a<>", 4, 1}, {"", "hyper a<0>", 4, 1}, {"struct s { hyper a[100]; };", "s a<>", 4, 1}, {"", "int *a", 4, 1}, {"struct s { hyper a[100]; };", "s *a", 4, 1},
	{"", "struct { hyper a[100]; } *a", 4, 1}, {"", "int a[1]", 4, 2}, {"", "int a[7]", 28, 2}, {"", "hyper a[7]", 56, 2}, {"typedef opaque h[5];", "h a[3]", 24, 2},
	{"typedef int h[5]; typedef h i[4];", "i a[3]", 240, 4}, {"typedef string h<>;", "h a[3]", 12, 2},
	{"", "struct { int a; } a", 4, 2}, {"", "struct { int a; hyper b; opaque c[5]; } a", 20, 2}, {"", "struct { int a; hyper b[2]; int c; } a", 24, 3}, {"", "struct { hyper b[2]; int c; } a[2]", 40, 4},
	{"", "struct { struct { struct { bool a; } a; double b; } a; } a", 12, 4},
	{"", "union switch (int d) { case 1: void; } a", 4, 2}, {"", "union switch (bool d) { case 1: hyper a; case 0: void; } a", 12, 2},
	{"", "union switch (unsigned int d) { case 1: void; case 0: hyper a[9]; default: opaque b[80]; } a", 4, 2},
	{"", "union switch (enum { A = 1, B = 2 } d) { case B: int a[3]; case A: void; } a", 16, 3}, {"", "union switch (int d) { case 1: opaque a<>; default: hyper b[9]; } a[3]", 24, 3},
	{"struct s { s *a; int b; };", "s a", 8, 2}, {"struct s { s a<>; s b<>; };", "s a[4]", 32, 3}, {"union u switch (int d) { case 1: u *a; };", "u a", 8, 2},
}

// TestBytesOfLeastValues: with so much beside it that 1000 bytes are just reached, and passed.
func TestBytesOfLeastValues(t *testing.T) {
	for _, c := range measured {
		form := c.ahead + "struct @whole { opaque fill[%d]; " + c.written + "; };"
		wantRight(t, unmarked(fmt.Sprintf(form, 1000-c.bytes)))
		wantRight(t, unmarked(fmt.Sprintf(form, 997-c.bytes)))
		wantWrong(t, fmt.Sprintf(form, 1001-c.bytes), api.ErrSchemaRange)
		// As an arm, ahead of which four bytes stand; a later arm has no part in the least value.
		form = c.ahead + "union @whole switch (int d) { case 1: struct { opaque fill[%d]; " + c.written + "; } w; };"
		wantRight(t, unmarked(fmt.Sprintf(form, 996-c.bytes)))
		wantWrong(t, fmt.Sprintf(form, 997-c.bytes), api.ErrSchemaRange)
		form = c.ahead + "union whole switch (int d) { case 1: void; default: struct { opaque fill[%d]; " + c.written + "; } w; };"
		wantRight(t, fmt.Sprintf(form, 1000-c.bytes))
		// As elements, as many as there may be.
		n := 1000 / c.bytes
		wantRight(t, c.ahead+"typedef struct { "+c.written+"; } t; typedef t v["+strconv.Itoa(n)+"];")
		wantWrong(t, c.ahead+"typedef struct { "+c.written+"; } t; typedef t @v["+strconv.Itoa(n+1)+"];", api.ErrSchemaRange)
	}
}

// TestDepthOfLeastValues: within so many others that a depth of 64 is just reached, and passed.
func TestDepthOfLeastValues(t *testing.T) {
	wraps := []string{"struct w%d { w%d a; };", "typedef w%[2]d w%[1]d[1];", "union w%d switch (int d) { case 1: w%d a; };", "struct w%d { int b; w%d a; int c; };"}
	marks := []string{"struct @w%d { w%d a; };", "typedef w%[2]d @w%[1]d[1];", "union @w%d switch (int d) { case 1: w%d a; };", "struct @w%d { int b; w%d a; int c; };"}
	for i, c := range measured {
		if c.bytes > 300 {
			continue
		}
		for first := range wraps {
			k := strings.LastIndex(c.written, "a")
			s := c.ahead + "typedef " + c.written[:k] + "w0" + c.written[k+1:] + ";"
			n := 1
			for ; c.depth+n <= 64; n++ {
				s += fmt.Sprintf(wraps[(first+n*(i%3))%len(wraps)], n, n-1)
			}
			wantRight(t, s)
			wantRight(t, s+fmt.Sprintf("typedef w%[2]d *w%[1]d; typedef w%[2]d z<>; typedef w%[2]d y;", n, n-1))
			for _, mark := range marks {
				wantWrong(t, s+fmt.Sprintf(mark, n, n-1), api.ErrSchemaRange)
			}
		}
	}
}

// TestWhichIsTooGreat: by rising places, the body that is defined last; at the node that writes the type.
func TestWhichIsTooGreat(t *testing.T) {
	for _, marked := range []string{
		"struct s { int a; hyper @b[126]; hyper c[126]; };",
		"struct s { opaque a[1000]; struct { int x; hyper @b[126]; } c; };",
		"struct s { opaque a[1000]; @struct { int x; opaque b[1000]; } c; hyper d[126]; };",
		"struct s { opaque a[1000]; struct { int x; opaque b<>; } @c[126]; hyper d[126]; };",
		"struct @s { opaque a[1000]; int b; };",
		"struct @s { hyper a[125]; s *b; };",
		"struct s { hyper @a[126]; s *b; };",
		"struct s { hyper @a[126]; s b<>; int c[1000]; };",
		"struct s { struct { hyper @a[126]; } *b; int c; };",
		"union u switch (int d) { case 1: void; case 2: hyper @a[126]; default: hyper b[126]; };",
		"union u switch (int d) { case 1: void; default: @struct { opaque a[999]; int b; } *c; };",
		"union @u switch (int d) { case 1: opaque a[997]; default: void; };",
		"union @u switch (enum { A = 1 } d) { case 1: opaque a[1000]; default: void; };",
		"struct s { @union switch (int d) { case 1: opaque a[1000]; } b; };",
		"typedef @struct { opaque a[999]; int b; } t;",
		"typedef @struct { opaque a[999]; int b; } *t;",
		"typedef @struct { opaque a[999]; int b; } t[1000];",
		"typedef struct { int a; int b; } @t[126];",
		"typedef @struct { struct { opaque a[500]; } b; opaque c[501]; } t<>;",
		"typedef struct { hyper @a[1000]; } t[1000];",
		"typedef struct { struct { struct { struct { struct { struct { struct { opaque b[1000]; } @a[1000]; } a[1000]; } a[1000]; } a[1000]; } a[1000]; } a[1000]; } t[1000];",
		"const A = 1; typedef opaque b[1000]; struct @s { b x; enum { C = 1 } y; };",
	} {
		wantWrong(t, marked, api.ErrSchemaRange)
	}
	// What stands below a list or a maybe may have the body itself within, and so hangs on its least value.
	for _, marked := range []string{
		"struct s { struct { s @a[251]; } b<>; };",
		"struct s { struct { s @a[2]; } b<>; opaque c[600]; };",
		"struct s { opaque c[600]; struct { s @a[2]; } b<>; };",
		"struct s { @struct { s a; s b; } *b; opaque c[497]; };",
		"union u switch (int d) { case 1: struct { u @a[126]; } *b; };",
		"union u switch (int d) { case 1: void; default: struct { u @a[251]; } b<>; };",
		"struct s { @struct { s x; } *p; " + strings.Repeat("struct { ", 7) + "opaque b[1000]; " + strings.Repeat("} a[1000]; ", 7) + "};",
		"struct s { @struct { s x; } *p; " + strings.Repeat("struct { ", 7) + "opaque b[1]; " + strings.Repeat("} a[256]; ", 7) + "};",
		"struct s { struct { s @a[1]; } *p; opaque b[1000]; };",
	} {
		wantWrong(t, marked, api.ErrSchemaRange)
	}
	for _, s := range []string{
		"struct s { struct { s a[250]; } b<>; };", "struct s { struct { s a[2]; } b<>; opaque c[496]; };", "struct s { struct { s a; s b; } *b; opaque c[496]; };",
		"union u switch (int d) { case 1: struct { u a[125]; } *b; };", "union u switch (int d) { case 1: void; default: struct { u a[250]; } b<>; };",
	} {
		wantRight(t, s)
	}
	// Of no least value: what a list, a maybe or a later arm may have.
	wantRight(t, "struct s { opaque a[500]; struct { opaque a[1000]; } *b; struct { opaque a[1000]; } c<>; union switch (int d) { case 1: void; default: opaque e[1000]; } d; };")
}

// TestHugeSchemas: Right of schemas that no source says ends, whatever they hold.
func TestHugeSchemas(t *testing.T) {
	x := api.Schema{Types: always()}
	for i := range 1 << 20 {
		x.Names = append(x.Names, constant("n"+strconv.Itoa(i), i))
	}
	if !schema.Right(x) {
		t.Error("a million names")
	}
	if n, is := schema.Find(x, "n5"); n != 0 || is {
		t.Error("a constant is found")
	}
	x.Names = append(x.Names, typed("last", 7))
	if n, is := schema.Find(x, "last"); n != 7 || !is {
		t.Error("the last one is not found")
	}
	x.Names = append(x.Names, constant("n0", 0))
	if schema.Right(x) {
		t.Error("a name twice")
	}
	x = api.Schema{Types: always()}
	for i := range 1 << 17 {
		x.Programs = append(x.Programs, api.Program{Name: "p" + strconv.Itoa(i), Number: i, Versions: []api.Version{{Name: "V", Procs: []api.Proc{{Name: "N"}}}}})
	}
	if !schema.Right(x) {
		t.Error("many programs")
	}
	x.Programs[1<<16].Number = 1
	if schema.Right(x) {
		t.Error("a number twice")
	}
	if schema.Right(api.Schema{Types: make([]api.Type, 1<<20)}) {
		t.Error("too many types")
	}
	x = api.Schema{Types: always()}
	x.Types = append(x.Types, api.Type{Kind: api.Struct, Fields: make([]api.Field, 1<<20)})
	if schema.Right(x) {
		t.Error("too many fields")
	}
}

// TestDeepSchemas: types that stand within one another as long as there are any, and whose least values no number tells.
func TestDeepSchemas(t *testing.T) {
	for _, size := range []int{1, 2, 3, 1000} {
		up, down := always(), always()
		for i := 8; i < api.MaxTypes; i++ {
			up = append(up, sized(api.Array, size, max(i-1, 7)))
			down = append(down, sized(api.Array, size, (i+1)%api.MaxTypes))
		}
		down[api.MaxTypes-1].Of = 1
		if schema.Right(api.Schema{Types: up}) || schema.Right(api.Schema{Types: down}) {
			t.Errorf("arrays of %d", size)
		}
		down[api.MaxTypes-1].Of = 8
		if schema.Right(api.Schema{Types: down}) {
			t.Errorf("a ring of arrays of %d", size)
		}
	}
	// Each doubles the one ahead: nobody may go through all of it.
	double, lists := always(), always()
	for i := 8; i < api.MaxTypes; i++ {
		at := max(i-1, 7)
		double = append(double, structOf(api.Field{Name: "a", Type: at}, api.Field{Name: "b", Type: at}))
		lists = append(lists, sized(api.List, 1<<32-1, (i+1)%api.MaxTypes))
	}
	lists[api.MaxTypes-1].Of = 8
	if schema.Right(api.Schema{Types: double}) || !schema.Right(api.Schema{Types: lists}) {
		t.Error("structs of two, or a ring of lists")
	}
	// Through later arms, which no least value has within.
	arms := always()
	for i := 8; i < api.MaxTypes; i++ {
		at := max(i-1, 7)
		arms = append(arms, unionOf(1, -1, api.Arm{Cases: []int{1}}, api.Arm{Cases: []int{2}, Name: "a", Type: at}, api.Arm{Cases: []int{3}, Name: "b", Type: at}))
	}
	if !schema.Right(api.Schema{Types: arms}) {
		t.Error("unions of two")
	}
	arms[8].Arms[2].Type = api.MaxTypes - 1
	if schema.Right(api.Schema{Types: arms}) {
		t.Error("a ring of unions")
	}
}

// TestManyCases: 64 arms of 64 cases in each of many unions.
func TestManyCases(t *testing.T) {
	x := api.Schema{Types: always()}
	for range 100 {
		u := unionOf(1, -1)
		for a := range 64 {
			arm := api.Arm{}
			for c := range 64 {
				arm.Cases = append(arm.Cases, a*64+c)
			}
			u.Arms = append(u.Arms, arm)
		}
		x.Types = append(x.Types, u)
	}
	if !schema.Right(x) {
		t.Error("many cases")
	}
	x.Types[107].Arms[63].Cases[63] = 0
	if schema.Right(x) {
		t.Error("a case twice")
	}
}

// TestHugeTrees: no tree of a source, however deep or wide, or however often a part stands in it.
func TestHugeTrees(t *testing.T) {
	deep := api.Tree{Kind: api.NodeStruct, Kids: []api.Tree{{Kind: api.NodeVoid}}}
	for range 1 << 16 {
		deep = api.Tree{Kind: api.NodeStruct, Kids: []api.Tree{{Kind: api.NodePlain, Name: "a", Kids: []api.Tree{deep}}}}
	}
	deep.Name = "s"
	wide := api.Tree{Kind: api.NodeSource, Kids: make([]api.Tree, 1<<20)}
	often := api.Tree{Kind: api.NodeStruct, Kids: []api.Tree{{Kind: api.NodePlain, Name: "a", Kids: []api.Tree{{Kind: api.NodeInt}}}}}
	for range 7 {
		one := api.Tree{Kind: api.NodePlain, Name: "a", Kids: []api.Tree{often}}
		often = api.Tree{Kind: api.NodeStruct}
		for range 64 {
			often.Kids = append(often.Kids, one)
		}
	}
	often.Name = "s"
	for i, x := range []api.Tree{deep, {Kind: api.NodeSource, Kids: []api.Tree{deep}}, wide, {Kind: api.NodeSource, Kids: []api.Tree{often}}} {
		if y, e, at := schema.Resolve(x); e != api.ErrSyntaxTree || at != 0 || !same(y, api.Schema{}) {
			t.Errorf("%d: %d, %d", i, e, at)
		}
	}
}

// TestLongSources: as great as they may be.
func TestLongSources(t *testing.T) {
	var enums, cases, procs strings.Builder
	for i := range 15 {
		fmt.Fprintf(&enums, "enum e%d{", i)
		for k := range 63 {
			fmt.Fprintf(&enums, "M%dm%d=%d,", i, k, k)
		}
		fmt.Fprintf(&enums, "L%d=63};", i)
	}
	if x := compiled(t, enums.String()); len(x.Types) != 23 || len(x.Names) != 15*65 {
		t.Errorf("%d types, %d names", len(x.Types), len(x.Names))
	}
	cases.WriteString("union u switch(int d){")
	for a := range 26 {
		for c := range 64 {
			fmt.Fprintf(&cases, "case %d:", a*64+c)
		}
		cases.WriteString("void;")
	}
	cases.WriteString("};")
	if x := compiled(t, cases.String()); len(x.Types[8].Arms) != 26 || x.Types[8].Arms[25].Cases[63] != 26*64-1 {
		t.Errorf("%v", x.Types[8])
	}
	for p := range 8 {
		fmt.Fprintf(&procs, "program P%d{", p)
		for v := range 64 {
			fmt.Fprintf(&procs, "version V%d{int A(int)=1;}=%d;", v, v)
		}
		fmt.Fprintf(&procs, "}=%d;", p)
	}
	if x := compiled(t, procs.String()); len(x.Programs) != 8 || len(x.Programs[7].Versions) != 64 {
		t.Errorf("%d programs", len(x.Programs))
	}
}

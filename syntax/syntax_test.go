package syntax_test

import (
	"math"
	"strconv"
	"strings"
	"testing"

	"callbox/api"
	"callbox/syntax"
)

type tree = api.Tree

// at lays a node's place: where a test looks at places, all of a tree's nodes bear one.
func at(place int, t tree) tree {
	t.At = place
	return t
}

func node(kind int, kids ...tree) tree { return tree{Kind: kind, Kids: kids} }

func named(kind int, name string, kids ...tree) tree {
	return tree{Kind: kind, Name: name, Kids: kids}
}

func number(n int) tree { return tree{Kind: api.NodeNumber, Number: n} }

func ref(name string) tree { return named(api.NodeRef, name) }

func source(kids ...tree) tree { return node(api.NodeSource, kids...) }

// plain is a declaration of a field that is an int.
func plain(name string) tree { return named(api.NodePlain, name, node(api.NodeInt)) }

// times is a list of so many nodes, each with memory of its own.
func times(n int, one func() tree) []tree {
	var out []tree
	for range n {
		out = append(out, one())
	}
	return out
}

// equal looks at places too.
func equal(a, b tree) bool {
	if a.Kind != b.Kind || a.Name != b.Name || a.Number != b.Number || a.At != b.At || len(a.Kids) != len(b.Kids) {
		return false
	}
	for i := range a.Kids {
		if !equal(a.Kids[i], b.Kids[i]) {
			return false
		}
	}
	return true
}

// short keeps what a test tells readable.
func short(s string) string {
	if len(s) > 120 {
		return strconv.Quote(s[:120]) + " and so on, " + strconv.Itoa(len(s)) + " bytes"
	}
	return strconv.Quote(s)
}

func wantTree(t *testing.T, s string, want tree) {
	t.Helper()
	got, e, place := syntax.Parse(s)
	if e != api.OK || place != 0 || !equal(got, want) {
		t.Errorf("Parse(%s) = %v, %d, %d, not %v", short(s), got, e, place, want)
	}
}

// wantSame: a source is read as a tree, wherever its parts begin, and that is printed as another one.
func wantSame(t *testing.T, s string, want tree, printed string) {
	t.Helper()
	got, e, place := syntax.Parse(s)
	if e != api.OK || place != 0 || !syntax.Same(got, want) {
		t.Errorf("Parse(%s) = %v, %d, %d, not %v", short(s), got, e, place, want)
	}
	wantText(t, want, printed)
}

func wantText(t *testing.T, x tree, want string) {
	t.Helper()
	if s, e := syntax.Print(x); s != want || e != api.OK {
		t.Errorf("Print(%v) = %s, %d, not %s", x, short(s), e, short(want))
	}
}

// wantShortest: a source is the shortest one of its tree.
func wantShortest(t *testing.T, s string) {
	t.Helper()
	x, e, place := syntax.Parse(s)
	if e != api.OK || place != 0 {
		t.Errorf("Parse(%s) = %d, %d", short(s), e, place)
		return
	}
	wantText(t, x, s)
}

func wantFault(t *testing.T, s string, want api.Errno, place int) {
	t.Helper()
	got, e, at := syntax.Parse(s)
	if !equal(got, tree{}) || e != want || at != place {
		t.Errorf("Parse(%s) = %v, %d, %d, not %d, %d", short(s), got, e, at, want, place)
	}
}

func wantNoTree(t *testing.T, x tree) {
	t.Helper()
	if s, e := syntax.Print(x); s != "" || e != api.ErrSyntaxTree {
		t.Errorf("Print(%v) = %s, %d", x, short(s), e)
	}
}

func TestExamples(t *testing.T) {
	constant := source(at(6, named(api.NodeConst, "A", at(10, number(16)))))
	wantTree(t, "const A = 0x10;", constant)
	wantText(t, constant, "const A=16;")
	const list = "typedef opaque h<>; struct s { h a[3]; s *next; };"
	wantTree(t, list, source(
		at(0, node(api.NodeTypedef, at(15, named(api.NodeList, "h", at(8, node(api.NodeOpaque)))))),
		at(27, named(api.NodeStruct, "s",
			at(33, named(api.NodeFixed, "a", at(31, ref("h")), at(35, number(3)))),
			at(42, named(api.NodeMaybe, "next", at(39, ref("s"))))))))
	x, _, _ := syntax.Parse(list)
	wantText(t, x, "typedef opaque h<>;struct s{h a[3];s*next;};")
	wantFault(t, "struct s { struct t x; };", api.ErrSyntaxToken, 18)
	wantFault(t, "typedef void;", api.ErrSyntaxToken, 8)
	wantFault(t, "enum e { };", api.ErrSyntaxToken, 9)
	wantFault(t, "const A = 1", api.ErrSyntaxToken, 11)
	wantFault(t, "unsigned", api.ErrSyntaxToken, 0)
	wantTree(t, "", source())
	wantText(t, source(), "")
	const program = "program P{version V{void N(void)=0;r A(int,hyper)=1;}=2;}=77;"
	wantSame(t, program, source(named(api.NodeProgram, "P", number(77), named(api.NodeVersion, "V", number(2),
		named(api.NodeProc, "N", number(0), node(api.NodeVoid), node(api.NodeVoid)),
		named(api.NodeProc, "A", number(1), ref("r"), node(api.NodeInt), node(api.NodeHyper))))), program)
	wantFault(t, strings.Replace(program, "=2", "=-2", 1), api.ErrSyntaxToken, 54)
	wantNoTree(t, source(ref("a")))
	wantNoTree(t, source(named(api.NodeConst, "int", number(1))))
}

// TestRules: each rule of the table, as the tree that it makes.
func TestRules(t *testing.T) {
	for _, c := range []struct {
		s    string
		want tree
	}{
		{"const A=-2147483648;", named(api.NodeConst, "A", number(math.MinInt32))},
		{"const TRUE=4294967295;", named(api.NodeConst, "TRUE", number(api.MaxWord))},
		{"enum e{A=1};", named(api.NodeEnum, "e", named(api.NodeMember, "A", number(1)))},
		{"enum e{A=-1,B=A};", named(api.NodeEnum, "e", named(api.NodeMember, "A", number(-1)), named(api.NodeMember, "B", ref("A")))},
		{"struct s{int a;};", named(api.NodeStruct, "s", plain("a"))},
		{"struct s{void;void;};", named(api.NodeStruct, "s", node(api.NodeVoid), node(api.NodeVoid))},
		{"union u switch(int d){case 1:void;};", named(api.NodeUnion, "u", plain("d"), node(api.NodeCase, number(1), node(api.NodeVoid)))},
		{"union u switch(void){case-1:case N:int a;case 0:int b;default:int c;};", named(api.NodeUnion, "u", node(api.NodeVoid),
			node(api.NodeCase, number(-1), ref("N"), plain("a")), node(api.NodeCase, number(0), plain("b")), node(api.NodeElse, plain("c")))},
		{"typedef enum{A=1}b;", node(api.NodeTypedef, named(api.NodePlain, "b", node(api.NodeEnum, named(api.NodeMember, "A", number(1)))))},
		{"typedef struct{int a;}b;", node(api.NodeTypedef, named(api.NodePlain, "b", node(api.NodeStruct, plain("a"))))},
		{"typedef union switch(int d){case 1:void;}b;", node(api.NodeTypedef, named(api.NodePlain, "b",
			node(api.NodeUnion, plain("d"), node(api.NodeCase, number(1), node(api.NodeVoid)))))},
		{"program P{version V{void A(void)=0;}=1;version W{int A(a,b,c,d)=4294967295;}=0;}=3;", named(api.NodeProgram, "P", number(3),
			named(api.NodeVersion, "V", number(1), named(api.NodeProc, "A", number(0), node(api.NodeVoid), node(api.NodeVoid))),
			named(api.NodeVersion, "W", number(0), named(api.NodeProc, "A", number(api.MaxWord), node(api.NodeInt), ref("a"), ref("b"), ref("c"), ref("d"))))},
	} {
		wantSame(t, c.s, source(c.want), c.s)
		twice := strings.Repeat(c.s, 2)
		wantSame(t, twice, source(c.want, c.want), twice)
	}
}

// bares: the types that stand in all places where one may.
var bares = []struct {
	text string
	want tree
}{
	{"int", node(api.NodeInt)}, {"unsigned int", node(api.NodeUint)}, {"hyper", node(api.NodeHyper)}, {"unsigned hyper", node(api.NodeUhyper)},
	{"float", node(api.NodeFloat)}, {"double", node(api.NodeDouble)}, {"bool", node(api.NodeBool)}, {"n", ref("n")},
}

// TestDeclarations: each form, of each type, in each place of one.
func TestDeclarations(t *testing.T) {
	forms := []struct {
		text string
		want tree
	}{
		{"opaque x[9]", named(api.NodeFixed, "x", node(api.NodeOpaque), number(9))}, {"opaque x[N]", named(api.NodeFixed, "x", node(api.NodeOpaque), ref("N"))},
		{"opaque x<>", named(api.NodeList, "x", node(api.NodeOpaque))}, {"opaque x<9>", named(api.NodeList, "x", node(api.NodeOpaque), number(9))}, {"opaque x<N>", named(api.NodeList, "x", node(api.NodeOpaque), ref("N"))},
		{"string x<>", named(api.NodeList, "x", node(api.NodeString))}, {"string x<-9>", named(api.NodeList, "x", node(api.NodeString), number(-9))}, {"string x<N>", named(api.NodeList, "x", node(api.NodeString), ref("N"))},
	}
	for _, b := range bares {
		forms = append(forms, []struct {
			text string
			want tree
		}{
			{b.text + " x", named(api.NodePlain, "x", b.want)}, {b.text + "*x", named(api.NodeMaybe, "x", b.want)},
			{b.text + " x[0]", named(api.NodeFixed, "x", b.want, number(0))}, {b.text + " x[N]", named(api.NodeFixed, "x", b.want, ref("N"))},
			{b.text + " x<>", named(api.NodeList, "x", b.want)}, {b.text + " x<0>", named(api.NodeList, "x", b.want, number(0))}, {b.text + " x<N>", named(api.NodeList, "x", b.want, ref("N"))},
		}...)
	}
	for _, f := range forms {
		void := node(api.NodeVoid)
		for s, want := range map[string]tree{
			"typedef " + f.text + ";":                                        node(api.NodeTypedef, f.want),
			"struct s{" + f.text + ";};":                                     named(api.NodeStruct, "s", f.want),
			"struct s{void;" + f.text + ";void;};":                           named(api.NodeStruct, "s", void, f.want, void),
			"union u switch(" + f.text + "){case 1:void;};":                  named(api.NodeUnion, "u", f.want, node(api.NodeCase, number(1), void)),
			"union u switch(void){case 1:" + f.text + ";};":                  named(api.NodeUnion, "u", void, node(api.NodeCase, number(1), f.want)),
			"union u switch(void){case 1:void;default:" + f.text + ";};":     named(api.NodeUnion, "u", void, node(api.NodeCase, number(1), void), node(api.NodeElse, f.want)),
			"typedef struct{" + f.text + ";}b[1];":                           node(api.NodeTypedef, named(api.NodeFixed, "b", node(api.NodeStruct, f.want), number(1))),
			"typedef union switch(void){case 1:" + f.text + ";}*b;":          node(api.NodeTypedef, named(api.NodeMaybe, "b", node(api.NodeUnion, void, node(api.NodeCase, number(1), f.want)))),
			"struct s{enum{A=1}e<>;" + f.text + ";};":                        named(api.NodeStruct, "s", named(api.NodeList, "e", node(api.NodeEnum, named(api.NodeMember, "A", number(1)))), f.want),
			"typedef union switch(" + f.text + "){case 1:case 2:void;}b<N>;": node(api.NodeTypedef, named(api.NodeList, "b", node(api.NodeUnion, f.want, node(api.NodeCase, number(1), number(2), void)), ref("N"))),
		} {
			wantSame(t, s, source(want), s)
		}
	}
}

// TestProcedures: each type as a result and as an argument.
func TestProcedures(t *testing.T) {
	for _, b := range append(bares, struct {
		text string
		want tree
	}{"void", node(api.NodeVoid)}) {
		s := "program P{version V{" + b.text + " A(" + b.text + ")=1;}=1;}=1;"
		wantSame(t, s, source(named(api.NodeProgram, "P", number(1), named(api.NodeVersion, "V", number(1), named(api.NodeProc, "A", number(1), b.want, b.want)))), s)
		if b.text == "void" {
			continue
		}
		s = "program P{version V{void A(" + b.text + ",int," + b.text + ")=1;}=1;}=1;"
		wantSame(t, s, source(named(api.NodeProgram, "P", number(1), named(api.NodeVersion, "V", number(1), named(api.NodeProc, "A", number(1), node(api.NodeVoid), b.want, node(api.NodeInt), b.want)))), s)
	}
}

// TestPlaces: where each kind of node begins.
func TestPlaces(t *testing.T) {
	wantTree(t, " /* */ typedef enum { A = -1 } e ; ", source(
		at(7, node(api.NodeTypedef, at(31, named(api.NodePlain, "e", at(15, node(api.NodeEnum, at(22, named(api.NodeMember, "A", at(26, number(-1))))))))))))
	wantTree(t, "union  u switch ( unsigned  int d ) { case  A : case 2 : void ; default : struct { n * p ; } s [ N ] ; } ;", source(
		at(7, named(api.NodeUnion, "u",
			at(32, named(api.NodePlain, "d", at(18, node(api.NodeUint)))),
			at(38, node(api.NodeCase, at(44, ref("A")), at(53, number(2)), at(57, node(api.NodeVoid)))),
			at(64, node(api.NodeElse, at(93, named(api.NodeFixed, "s",
				at(74, node(api.NodeStruct, at(87, named(api.NodeMaybe, "p", at(83, ref("n")))))),
				at(97, ref("N"))))))))))
	wantTree(t, "program P { version V { unsigned hyper A ( bool , n ) = 017 ; } = 0x2 ; } = 3 ;", source(
		at(8, named(api.NodeProgram, "P", at(76, number(3)),
			at(20, named(api.NodeVersion, "V", at(66, number(2)),
				at(39, named(api.NodeProc, "A", at(56, number(15)), at(24, node(api.NodeUhyper)), at(43, node(api.NodeBool)), at(50, ref("n"))))))))))
	wantTree(t, "typedef union switch(opaque a<1>){case 0:string b<>;}u<>;", source(
		at(0, node(api.NodeTypedef, at(53, named(api.NodeList, "u", at(8, node(api.NodeUnion,
			at(28, named(api.NodeList, "a", at(21, node(api.NodeOpaque)), at(30, number(1)))),
			at(34, node(api.NodeCase, at(39, number(0)), at(48, named(api.NodeList, "b", at(41, node(api.NodeString))))))))))))))
}

// TestNumbers: a number is printed in decimal, however it was written.
func TestNumbers(t *testing.T) {
	for text, want := range map[string]string{
		"0": "0", "00": "0", "0x0": "0", "017": "15", "0xfF": "255", "0xffffffff": "4294967295", "037777777777": "4294967295", "-1": "-1", "-2147483648": "-2147483648", "1000000000": "1000000000", "0x10000000": "268435456",
	} {
		x, e, _ := syntax.Parse("const A = " + text + ";")
		if e != api.OK {
			t.Errorf("%s: %d", text, e)
		}
		wantText(t, x, "const A="+want+";")
		x, _, _ = syntax.Parse("union u switch (void) { case " + text + " : void; };")
		wantText(t, x, strings.Replace("union u switch(void){case "+want+":void;};", "case -", "case-", 1))
	}
}

func TestFaultsOfTokens(t *testing.T) {
	wantFault(t, "const A = 08;", api.ErrLexNumber, 10)
	wantFault(t, "; /* ", api.ErrLexComment, 2)
	wantFault(t, "typedef ; 08", api.ErrLexNumber, 10)
	wantFault(t, "} } _", api.ErrLexByte, 4)
	wantFault(t, ";"+strings.Repeat("n", 33), api.ErrLexName, 1)
	wantFault(t, strings.Repeat(";", 16001), api.ErrLexLong, 16000)
	wantFault(t, strings.Repeat("const A=1;", 101)+"-", api.ErrLexByte, 1010)
	wantFault(t, "struct s{"+strings.Repeat("struct{", 9)+"0x", api.ErrLexNumber, 9+9*7)
}

// TestPlainFaults: some of what may not be, place by place. (All of it is held against the model.)
func TestPlainFaults(t *testing.T) {
	for _, c := range []struct {
		s  string
		at int
	}{
		{";", 0}, {"a", 0}, {"const A=1;;", 10}, {"const A=1 const", 10}, {"const A=B;", 8}, {"const=1;", 5}, {"const int=1;", 6}, {"const A=1", 9}, {"const A=1 /* */ ", 16},
		{"typedef int a", 13}, {"typedef int;", 11}, {"typedef unsigned a;", 17}, {"typedef unsigned float a;", 17}, {"typedef unsigned unsigned int a;", 17}, {"typedef quadruple a;", 8}, {"typedef int int a;", 12}, {"typedef struct s a;", 15}, {"typedef enum e a;", 13}, {"typedef union u a;", 14},
		{"typedef opaque a;", 16}, {"typedef opaque*a;", 14}, {"typedef opaque a[];", 17}, {"typedef string a;", 16}, {"typedef string*a;", 14}, {"typedef string a[3];", 16}, {"typedef opaque a*;", 16},
		{"typedef int a[];", 14}, {"typedef int a[1;", 15}, {"typedef int a[1>;", 15}, {"typedef int a<1];", 15}, {"typedef int a<<>>;", 14}, {"typedef int*a[1];", 13}, {"typedef int*a<>;", 13}, {"typedef int**a;", 12}, {"typedef int a*;", 13}, {"typedef int*;", 12}, {"typedef int a[1][1];", 16}, {"typedef int a[int];", 14}, {"typedef void a;", 8}, {"typedef void*a;", 8},
		{"enum{A=1};", 4}, {"enum e{};", 7}, {"enum e{A};", 8}, {"enum e{A=};", 9}, {"enum e{A=1,};", 11}, {"enum e{A=1;};", 10}, {"enum e{,A=1};", 7}, {"enum e{A=1}", 11}, {"enum e{A=1}a;", 11}, {"enum e{A=int};", 9}, {"enum e;", 6},
		{"struct{int a;};", 6}, {"struct s{};", 9}, {"struct s{;};", 9}, {"struct s{int a};", 14}, {"struct s{int a,int b;};", 14}, {"struct s{void a;};", 14}, {"struct s{int a;}", 16}, {"struct s{int a;}b;", 16}, {"struct s;", 8}, {"struct s{const A=1;};", 9}, {"struct s{typedef int a;};", 9},
		{"union switch(int d){case 1:void;};", 6}, {"union u{case 1:void;};", 7}, {"union u switch{", 14}, {"union u switch(){", 15}, {"union u switch(int d;", 20}, {"union u switch(int d){};", 22}, {"union u switch(int d){default:void;};", 22}, {"union u switch(int d){case 1:};", 29}, {"union u switch(int d){case:void;};", 26}, {"union u switch(int d){case 1 void;};", 29}, {"union u switch(int d){case 1:void};", 33}, {"union u switch(int d){case 1:void;void;};", 34}, {"union u switch(int d){case 1:default:void;};", 29}, {"union u switch(int d){case 1:void;default:void;default:void;};", 47}, {"union u switch(int d){case 1:void;default:void;case 2:void;};", 47}, {"union u switch(int d){case 1:void;default void;};", 42}, {"union u switch(int d){case 1,2:void;};", 28}, {"union u switch(int d,int e){", 20},
		{"program{", 7}, {"program P{}=1;", 10}, {"program P{version V{}=1;}=1;", 20}, {"program P{version V{int A(void)=1;};}=1;", 35}, {"program P{version V{int A(void)=1;}=1}=1;", 37}, {"program P{version V{int A(void)=1;}=1;};", 39}, {"program P{version V{int A(void)=1;}=1;}=1", 41}, {"program P{version V{int A(void)=1;}=1;}=N;", 40}, {"program P{version V{int A(void)=1;}=1;}=-1;", 40}, {"program P{version V{int A(void)=1;}=-1;}=1;", 36}, {"program P{version V{int A(void)=-1;}=1;}=1;", 32}, {"program P{version V{int A(void)=N;}=1;}=1;", 32},
		{"program P{version V{int A()=1;}=1;}=1;", 26}, {"program P{version V{int A(void,int)=1;}=1;}=1;", 30}, {"program P{version V{int A(int,void)=1;}=1;}=1;", 30}, {"program P{version V{int A(int,)=1;}=1;}=1;", 30}, {"program P{version V{int A(int a)=1;}=1;}=1;", 30}, {"program P{version V{int*A(void)=1;}=1;}=1;", 23}, {"program P{version V{string A(void)=1;}=1;}=1;", 20}, {"program P{version V{opaque A(void)=1;}=1;}=1;", 20}, {"program P{version V{struct{int x;}A(void)=1;}=1;}=1;", 20}, {"program P{version V{int A(enum{A=1})=1;}=1;}=1;", 26}, {"program P{version V{int A(string)=1;}=1;}=1;", 26}, {"program P{int A(void)=1;}=1;", 10}, {"version V{int A(void)=1;}=1;", 0}, {"program P{version V{version W{", 20},
	} {
		wantFault(t, c.s, api.ErrSyntaxToken, c.at)
	}
}

func TestSame(t *testing.T) {
	one := func() tree {
		return tree{Kind: 4, Name: "a", Number: 7, At: 1, Kids: []tree{{Kind: 5, Name: "b", At: 2}, {Kind: -1, Number: -9, Kids: []tree{{}}}}}
	}
	if !syntax.Same(one(), one()) || !syntax.Same(tree{}, tree{}) || !syntax.Same(tree{Kids: []tree{}}, tree{}) {
		t.Error("the same are not the same")
	}
	for i, spoil := range []func(x *tree){
		func(x *tree) { x.Kind = 3 }, func(x *tree) { x.Name = "b" }, func(x *tree) { x.Name = "" }, func(x *tree) { x.Number = 8 }, func(x *tree) { x.Kids = nil }, func(x *tree) { x.Kids = x.Kids[:1] },
		func(x *tree) { x.Kids = append(x.Kids, tree{}) }, func(x *tree) { x.Kids[0], x.Kids[1] = x.Kids[1], x.Kids[0] }, func(x *tree) { x.Kids[0].Kind = 6 }, func(x *tree) { x.Kids[0].Name = "c" },
		func(x *tree) { x.Kids[1].Number = 9 }, func(x *tree) { x.Kids[1].Kids[0].Kind = 1 }, func(x *tree) { x.Kids[1].Kids = nil }, func(x *tree) { x.Kids[0].Kids = []tree{{}} },
	} {
		x := one()
		spoil(&x)
		if syntax.Same(x, one()) || syntax.Same(one(), x) || !syntax.Same(x, x) {
			t.Errorf("%d: %v", i, x)
		}
	}
	for _, spoil := range []func(x *tree){func(x *tree) { x.At = 9 }, func(x *tree) { x.Kids[0].At = -1 }, func(x *tree) { x.Kids[1].Kids[0].At = math.MaxInt }} {
		x := one()
		spoil(&x)
		if !syntax.Same(x, one()) || !syntax.Same(one(), x) {
			t.Errorf("At is looked at: %v", x)
		}
	}
}

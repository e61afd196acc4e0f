package syntax_test

import (
	"strings"
	"testing"

	"callbox/api"
	"callbox/syntax"
)

// counted is a rule of which there may be so many: the source is front, the things with what parts them, back.
type counted struct {
	what            string
	front, one, gap string
	back            string
	most            int
}

func (c counted) source(n int) string {
	return c.front + strings.Repeat(c.one+c.gap, n-1) + c.one + c.back
}

// place is where the one begins that is one too many: at the comma, if there is one.
func (c counted) place() int {
	return len(c.front) + len(c.one)*c.most + len(c.gap)*(c.most-1)
}

var limits = []counted{
	{"constants", "", "const A=1;", "", "", 100},
	{"typedefs", "", "typedef int a;", "", "", 100},
	{"enums", "", "enum e{A=1};", "", "", 100},
	{"structs", "", "struct s{int a;};", "", "", 100},
	{"unions", "", "union u switch(void){case 1:void;};", "", "", 100},
	{"programs", "", "program P{version V{int A(void)=1;}=1;}=1;", "", "", 100},
	{"members", "enum e{", "A=1", ",", "};", 64},
	{"members within", "typedef enum{", "A=1", ",", "}a;", 64},
	{"declarations", "struct s{", "int a;", "", "};", 64},
	{"void declarations", "struct s{", "void;", "", "};", 64},
	{"opaque declarations", "struct s{", "opaque a<>;", "", "};", 64},
	{"string declarations", "struct s{", "string a<>;", "", "};", 64},
	{"unsigned declarations", "struct s{", "unsigned int a;", "", "};", 64},
	{"named declarations", "struct s{", "a b;", "", "};", 64},
	{"struct declarations", "struct s{", "struct{int a;}b;", "", "};", 64},
	{"enum declarations", "struct s{", "enum{A=1}b;", "", "};", 64},
	{"union declarations", "struct s{", "union switch(void){case 1:void;}b;", "", "};", 64},
	{"declarations within", "typedef struct{", "int a;", "", "}b;", 64},
	{"arms", "union u switch(int d){", "case 1:void;", "", "};", 64},
	{"arms ahead of a default", "union u switch(int d){", "case 1:void;", "", "default:void;};", 64},
	{"arms of two cases", "union u switch(int d){", "case 1:case 2:void;", "", "};", 64},
	{"arms within", "typedef union switch(int d){", "case 1:void;", "", "}a;", 64},
	{"cases", "union u switch(int d){", "case 1:", "", "void;};", 64},
	{"cases of a later arm", "union u switch(int d){case 0:case 1:void;", "case-1:", "", "int a;default:void;};", 64},
	{"versions", "program P{", "version V{int A(void)=1;}=1;", "", "}=1;", 64},
	{"procedures", "program P{version V{", "int A(void)=1;", "", "}=1;}=1;", 64},
	{"void procedures", "program P{version V{", "void A(void)=1;", "", "}=1;}=1;", 64},
	{"unsigned procedures", "program P{version V{", "unsigned hyper A(void)=1;", "", "}=1;}=1;", 64},
	{"named procedures", "program P{version V{", "a A(void)=1;", "", "}=1;}=1;", 64},
	{"procedures of a later version", "program P{version V{int A(void)=1;}=1;version W{", "int A(void)=1;", "", "}=1;}=1;", 64},
	{"arguments", "program P{version V{int A(", "int", ",", ")=1;}=1;}=1;", 4},
	{"named arguments", "program P{version V{int A(", "a", ",", ")=1;}=1;}=1;", 4},
}

// TestAsManyAsMayBe: and one more. What is too many is told at its first token, whatever comes behind.
func TestAsManyAsMayBe(t *testing.T) {
	for _, c := range limits {
		t.Run(c.what, func(t *testing.T) { checkLimit(t, c) })
	}
}

func checkLimit(t *testing.T, c counted) {
	for _, n := range []int{1, 2, c.most - 1, c.most} {
		wantShortest(t, c.source(n))
	}
	for _, n := range []int{c.most + 1, c.most + 2} {
		wantFault(t, c.source(n), api.ErrSyntaxMany, c.place())
	}
	// It is one too many only where it would be right: there are other tokens that never are.
	full := c.front + strings.Repeat(c.one+c.gap, c.most-1) + c.one
	for _, wrong := range []string{"]", "1", "quadruple", "=", ":", "switch"} {
		wantFault(t, full+" "+wrong, api.ErrSyntaxToken, c.place()+1)
	}
	if c.back != "" {
		wantFault(t, full, api.ErrSyntaxToken, c.place())
	}
	first := c.gap
	if first == "" {
		first = strings.FieldsFunc(c.one, func(r rune) bool { return strings.ContainsRune(" -{:;", r) })[0]
	}
	for _, behind := range []string{"", " ;", " }", " int", " struct{", " 1", " unsigned"} {
		wantFault(t, full+first+behind, api.ErrSyntaxMany, c.place())
	}
}

// TestCountsAreTheirOwn: what one has does not count for another one.
func TestCountsAreTheirOwn(t *testing.T) {
	fields := strings.Repeat("int a;", 63)
	wantShortest(t, "struct s{"+fields+"struct{"+fields+"int b;}a;};struct t{"+fields+"int a;};")
	members := strings.Repeat("A=1,", 63) + "A=1"
	wantShortest(t, "enum e{"+members+"};enum f{"+members+"};")
	cases := strings.Repeat("case 1:", 64)
	wantShortest(t, "union u switch(int d){"+strings.Repeat(cases+"void;", 20)+"default:void;};")
	procedures := strings.Repeat("int A(a,b,c,d)=1;", 64)
	wantShortest(t, "program P{"+strings.Repeat("version V{"+procedures+"}=1;", 10)+"}=1;")
	wantFault(t, "struct s{"+fields+"struct{"+fields+"int b;}a;int c;};", api.ErrSyntaxMany, 9+63*6+7+63*6+6+3)
	wantFault(t, "union u switch(int d){"+strings.Repeat("case 1:void;", 64)+"default:void;case 1:void;};", api.ErrSyntaxToken, 22+64*12+13)
	// With 64 arms, a 65th case of the last one is too many, and so is a 65th arm.
	wantFault(t, "union u switch(int d){"+strings.Repeat("case 1:void;", 63)+cases+"case 1:void;};", api.ErrSyntaxMany, 22+63*12+64*7)
	wantFault(t, "union u switch(int d){"+strings.Repeat("case 1:void;", 63)+cases+"void;case 1:void;};", api.ErrSyntaxMany, 22+63*12+64*7+5)
	wantFault(t, "program P{version V{int A(a,b,c,void)=1;", api.ErrSyntaxToken, 32)
	wantFault(t, "program P{version V{int A(a,b,c,d d,e)=1;", api.ErrSyntaxToken, 34)
}

// shells are the bodies that others can stand in; each stands with a name in a definition, without one in a type.
var shells = []struct{ front, back string }{
	{"struct", "{@;}"}, {"struct", "{void;@;struct{void;}a[1];}"}, {"union", " switch(@){case 1:void;}"}, {"union", " switch(void){case 1:@;}"},
	{"union", " switch(void){case 1:void;case 2:case 3:@;}"}, {"union", " switch(void){case 1:void;default:@;}"},
}

// cores are the innermost bodies.
var cores = []struct{ front, back string }{{"enum", "{A=1}"}, {"struct", "{int a;}"}, {"union", " switch(void){case 1:void;}"}}

// nest is so many bodies within one another, the first one with a name or not, and the place at which the last one begins.
func nest(n int, name string, pick func(i int) int, core int) (string, int) {
	s, place := "@", 0
	for i := range n {
		one := shells[pick(i)%len(shells)]
		if i == n-1 {
			one = cores[core]
		}
		body := one.front + one.back
		if i == 0 {
			body = one.front + name + one.back
		} else {
			body += "n"
		}
		place = strings.Index(s, "@")
		s = strings.Replace(s, "@", body, 1)
	}
	return s, place
}

func TestBodiesWithin(t *testing.T) {
	for core := range cores {
		for first := range shells {
			for step := range 4 {
				pick := func(i int) int { return first + i*step }
				for n := 1; n <= 12; n++ {
					s, _ := nest(n, " s", pick, core)
					inner, _ := nest(n, "", pick, core)
					s, inner = s+";", "typedef "+inner+"b;"
					if n <= 8 {
						wantShortest(t, s)
						wantShortest(t, inner)
						continue
					}
					_, place := nest(9, " s", pick, core)
					_, innerPlace := nest(9, "", pick, core)
					wantFault(t, s, api.ErrSyntaxDeep, place)
					wantFault(t, inner, api.ErrSyntaxDeep, len("typedef ")+innerPlace)
				}
			}
		}
	}
}

// TestBodiesBesideOneAnother: only those count that stand around.
func TestBodiesBesideOneAnother(t *testing.T) {
	eight := strings.Repeat("struct{", 8) + "int a;" + strings.Repeat("}b;", 8)
	seven := strings.Repeat("struct{", 7) + "int a;" + strings.Repeat("}b;", 7)
	wantShortest(t, "typedef "+eight+"typedef "+eight)
	wantShortest(t, "struct s{"+seven+seven+"enum{A=1}e;"+seven+"};")
	wantShortest(t, "struct s{"+strings.Repeat("struct{", 6)+"enum{A=1}a;struct{int a;}b;union switch(void){case 1:void;}c;"+strings.Repeat("}b;", 6)+"};")
	wantShortest(t, "union u switch("+strings.Repeat("struct{", 7)+"void;"+strings.Repeat("}b;", 6)+"}b){case 1:"+seven+"default:"+seven+"};")
	wantFault(t, "struct s{"+seven+eight+"};", api.ErrSyntaxDeep, 9+len(seven)+7*7)
}

// TestNinthBody: what is told where one too many would begin too deep; and that a body's word is told as any other one where no type may stand.
func TestNinthBody(t *testing.T) {
	deep := "struct s{" + strings.Repeat("struct{", 7)
	for _, word := range []string{"enum", "struct", "union"} {
		wantFault(t, deep+word, api.ErrSyntaxDeep, len(deep))
		wantFault(t, deep+word+" s", api.ErrSyntaxDeep, len(deep))
		wantFault(t, deep+"int a;"+word+"{", api.ErrSyntaxDeep, len(deep)+6)
		full := deep + strings.Repeat("int a;", 64)
		wantFault(t, full+word+"{", api.ErrSyntaxDeep, len(full))
		wantFault(t, full+"int", api.ErrSyntaxMany, len(full))
		wantFault(t, deep+"int "+word, api.ErrSyntaxToken, len(deep)+4)
		wantFault(t, deep+"int a;}"+word, api.ErrSyntaxToken, len(deep)+7)
		wantFault(t, deep+"opaque "+word, api.ErrSyntaxToken, len(deep)+7)
		wantFault(t, deep+"unsigned "+word, api.ErrSyntaxToken, len(deep)+9)
		choice := deep[:len(deep)-7] + "union switch("
		wantFault(t, choice+word, api.ErrSyntaxDeep, len(choice))
		wantFault(t, choice+"void){case "+word, api.ErrSyntaxToken, len(choice)+11)
		wantFault(t, choice+"void){case 1:"+word, api.ErrSyntaxDeep, len(choice)+13)
		wantFault(t, choice+"void){case 1:void;default:"+word, api.ErrSyntaxDeep, len(choice)+26)
		wantFault(t, choice+"void){case 1:void;"+word, api.ErrSyntaxToken, len(choice)+18)
	}
}

// filled is a source of just so many bytes (2400 at least) that is the shortest one of its tree.
func filled(t *testing.T, n int) string {
	t.Helper()
	name := strings.Repeat("n", 32)
	var b strings.Builder
	structure := "struct s{" + strings.Repeat("int "+name+";", 64) + "};"
	for n-b.Len() >= len(structure)+10 {
		b.WriteString(structure)
	}
	for b.Len() < n {
		left := n - b.Len()
		size := min(left, 41)
		if left > 41 && left-size < 10 {
			size = 31
		}
		b.WriteString("const " + name[:size-9] + "=1;")
	}
	if b.Len() != n {
		t.Fatalf("%d bytes, not %d", b.Len(), n)
	}
	return b.String()
}

func TestLength(t *testing.T) {
	for _, n := range []int{2400, 15998, 15999, 16000} {
		wantShortest(t, filled(t, n))
	}
	wantFault(t, filled(t, 16001), api.ErrLexLong, 16000)
	wantFault(t, filled(t, 16000)+" ", api.ErrLexLong, 16000)
	// A longer tree is one of no source: it is made of one that has room yet.
	x, _, _ := syntax.Parse(filled(t, 15990))
	for i := range 20 {
		longer := x
		longer.Kids = append(x.Kids[:len(x.Kids):len(x.Kids)], named(api.NodeConst, strings.Repeat("a", i+1), number(1)))
		if i > 0 {
			wantNoTree(t, longer)
		} else {
			wantText(t, longer, filled(t, 15990)+"const a=1;")
		}
	}
	x.Kids = append(x.Kids, named(api.NodeConst, "a", number(-1)))
	wantNoTree(t, x)
	// How long a source is has no part in which token is wrong first.
	wantTree(t, strings.Repeat(" ", 16000), source())
	wantTree(t, "/*"+strings.Repeat("*", 15996)+"*/", source())
	wantFault(t, strings.Repeat(" ", 15999)+";", api.ErrSyntaxToken, 15999)
	wantFault(t, strings.Repeat(" ", 15995)+"const", api.ErrSyntaxToken, 16000)
	wantFault(t, "struct s{"+strings.Repeat(" ", 15990)+"}", api.ErrSyntaxToken, 15999)
}

// TestPrintedLimits: as many as may be are printed (TestAsManyAsMayBe), one more is no tree of a source.
func TestPrintedLimits(t *testing.T) {
	constant := func() tree { return named(api.NodeConst, "A", number(1)) }
	member := func() tree { return named(api.NodeMember, "A", number(1)) }
	field := func() tree { return plain("a") }
	void := node(api.NodeVoid)
	arm := func() tree { return node(api.NodeCase, number(1), void) }
	procedure := func() tree { return named(api.NodeProc, "A", number(1), void, void) }
	version := func() tree { return named(api.NodeVersion, "V", number(1), procedure()) }
	argument := func() tree { return node(api.NodeInt) }
	for i, c := range []struct {
		most int
		of   func(n int) tree
	}{
		{100, func(n int) tree { return source(times(n, constant)...) }},
		{64, func(n int) tree { return source(named(api.NodeEnum, "e", times(n, member)...)) }},
		{64, func(n int) tree { return source(named(api.NodeStruct, "s", times(n, field)...)) }},
		{64, func(n int) tree {
			return source(named(api.NodeUnion, "u", append([]tree{void}, times(n, arm)...)...))
		}},
		{64, func(n int) tree {
			return source(named(api.NodeUnion, "u", append(append([]tree{void}, times(n, arm)...), node(api.NodeElse, void))...))
		}},
		{64, func(n int) tree {
			return source(named(api.NodeUnion, "u", void, node(api.NodeCase, append(times(n, func() tree { return number(1) }), void)...)))
		}},
		{64, func(n int) tree {
			return source(named(api.NodeProgram, "P", append([]tree{number(1)}, times(n, version)...)...))
		}},
		{64, func(n int) tree {
			return source(named(api.NodeProgram, "P", number(1), named(api.NodeVersion, "V", append([]tree{number(1)}, times(n, procedure)...)...)))
		}},
		{4, func(n int) tree {
			return source(named(api.NodeProgram, "P", number(1), named(api.NodeVersion, "V", number(1), named(api.NodeProc, "A", append([]tree{number(1), void}, times(n, argument)...)...))))
		}},
	} {
		for _, n := range []int{1, c.most - 1, c.most} {
			if s, e := syntax.Print(c.of(n)); e != api.OK {
				t.Errorf("%d: %d of them: %s, %d", i, n, short(s), e)
			}
		}
		for _, n := range []int{c.most + 1, c.most + 2, 1000} {
			wantNoTree(t, c.of(n))
		}
		if i > 0 {
			wantNoTree(t, c.of(0))
		}
	}
}

func TestPrintedBodies(t *testing.T) {
	wrap := []func(x tree) tree{
		func(x tree) tree { return node(api.NodeStruct, x) },
		func(x tree) tree { return node(api.NodeUnion, x, node(api.NodeCase, number(1), node(api.NodeVoid))) },
		func(x tree) tree { return node(api.NodeUnion, plain("d"), node(api.NodeCase, number(1), x)) },
		func(x tree) tree {
			return node(api.NodeUnion, plain("d"), node(api.NodeCase, number(1), plain("a")), node(api.NodeElse, x))
		},
	}
	enum := node(api.NodeEnum, named(api.NodeMember, "A", number(1)))
	for first := range wrap {
		for _, core := range []tree{enum, node(api.NodeStruct, plain("a"))} {
			body := core
			for n := 1; n <= 12; n++ {
				definition := body
				definition.Name = "s"
				for _, x := range []tree{source(definition), source(node(api.NodeTypedef, named(api.NodeMaybe, "t", body)))} {
					if s, e := syntax.Print(x); (e == api.OK) != (n <= 8) || (s == "") != (n > 8) {
						t.Errorf("%d bodies: %s, %d", n, short(s), e)
					}
				}
				body = wrap[(first+n)%len(wrap)](named(api.NodeMaybe, "b", body))
			}
		}
	}
}

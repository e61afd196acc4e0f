package notation_test

import (
	"fmt"
	"math"
	"slices"
	"strings"
	"testing"

	"callbox/api"
	"callbox/notation"
	"callbox/schema"
	"callbox/value"
)

// source has types of all kinds, with names that are like one another, and like the texts of other types.
const source = `
struct point { int x; unsigned hyper y; };
union u switch (bool b) { case TRUE: point p; default: void; };
typedef string name<4>;
typedef opaque two[2];
enum e { A = 5, B = -1, C = 0, AA = 7, a_1 = -2147483648, none = 2147483647, nan = 1 };
typedef opaque some<3>;
typedef int three[3];
typedef e pair<2>;
typedef int *perhaps;
typedef perhaps *twice;
typedef e *member;
union byint switch (int d) { case -1: case 7: int a; case 2: string s<>; };
union byword switch (unsigned int d) { case 4294967295: hyper h; case 0: void; default: bool b; };
union byenum switch (e d) { case A: void; default: float f; };
union bymember switch (e d) { case A: int aa; case AA: int aaa; case B: void; };
union bytrue switch (bool d) { case TRUE: int a; };
struct alike { int f; int ff; int f1; };
struct all { float f; double d; two o; e k; bool b; name s; };
typedef int ints<>;
typedef opaque bytes<>;
typedef string chars<>;
typedef point points<3>;
typedef u shapes<>;
typedef string bit<2>;
typedef bit row[2];
typedef row rows<2>;
typedef int no_ints<0>;
typedef string empty<0>;
typedef opaque no_bytes<0>;
struct nest { nest kids<>; };
struct cell { int n; cell *next; };
struct mix { e k; byint u; int n; };
`

func compiled(t testing.TB, s string) api.Schema {
	t.Helper()
	x, e, at := schema.Compile(s)
	if e != api.OK {
		t.Fatalf("%s: %d at %d", s, e, at)
	}
	return x
}

// place is that of a type: a name of the schema's, or one of the language's own.
func place(t testing.TB, x api.Schema, name string) int {
	t.Helper()
	for i, own := range strings.Fields("void int uint hyper uhyper float double bool") {
		if name == own {
			return i
		}
	}
	at, is := schema.Find(x, name)
	if !is {
		t.Fatalf("no type %s", name)
	}
	return at
}

func num(kind, n int) api.Value { return api.Value{Kind: kind, Int: n} }

func whole(n int) api.Value { return num(api.Int, n) }

func single(f float32) api.Value { return api.Value{Kind: api.Float, Single: f} }

func double(f float64) api.Value { return api.Value{Kind: api.Double, Double: f} }

func text(kind int, s string) api.Value { return api.Value{Kind: kind, Text: s} }

func chars(s string) api.Value { return text(api.String, s) }

func items(kind int, l ...api.Value) api.Value { return api.Value{Kind: kind, Items: l} }

func parts(l ...api.Value) api.Value { return items(api.Struct, l...) }

func choice(n int, v api.Value) api.Value {
	return api.Value{Kind: api.Union, Int: n, Items: []api.Value{v}}
}

func point(x, y int) api.Value { return parts(whole(x), num(api.Uhyper, y)) }

var nothing = api.Value{}

var negative = math.Copysign(0, -1)

// short is as much of a thing as a failing test shows.
func short(v any) string {
	s := fmt.Sprintf("%#v", v)
	if len(s) > 700 {
		return s[:500] + " .. " + s[len(s)-150:]
	}
	return s
}

// alike: are values the same, told without the layers below?
func alike(a, b api.Value) bool {
	return a.Kind == b.Kind && a.Int == b.Int && a.Text == b.Text &&
		floatText(float64(a.Single)) == floatText(float64(b.Single)) && floatText(a.Double) == floatText(b.Double) &&
		slices.EqualFunc(a.Items, b.Items, alike)
}

// wantText: a value and a text are each other's.
func wantText(t *testing.T, x api.Schema, at int, v api.Value, s string) {
	t.Helper()
	if got, e := notation.Print(x, at, v); got != s || e != api.OK {
		t.Errorf("%s: %s, %d, not %s", short(v), short(got), e, short(s))
	}
	got, e, n := notation.Parse(x, at, s)
	if e != api.OK || n != 0 || !alike(got, v) || !value.Same(got, v) {
		t.Errorf("%s: %s, %d, %d, not %s", short(s), short(got), e, n, short(v))
	}
}

// wantWrong: a text is refused so, and there.
func wantWrong(t *testing.T, x api.Schema, at int, s string, want api.Errno, where int) {
	t.Helper()
	if v, e, n := notation.Parse(x, at, s); e != want || n != where || !alike(v, nothing) {
		t.Errorf("%s: %s, %d at %d, not %d at %d", short(s), short(v), e, n, want, where)
	}
}

// wantNone: a value has no text, for that.
func wantNone(t *testing.T, x api.Schema, at int, v api.Value, want api.Errno) {
	t.Helper()
	if s, e := notation.Print(x, at, v); s != "" || e != want {
		t.Errorf("%s: %s, %d, not %d", short(v), short(s), e, want)
	}
}

// TestExamples are the chapter's.
func TestExamples(t *testing.T) {
	x := compiled(t, "struct point { int x; unsigned hyper y; }; union u switch (bool b) { case TRUE: point p; default: void; }; typedef string name<4>; typedef opaque two[2];")
	pointAt, u, name, two := place(t, x, "point"), place(t, x, "u"), place(t, x, "name"), place(t, x, "two")
	wantText(t, x, pointAt, point(1, -1), "{x=1,y=18446744073709551615}")
	wantText(t, x, u, choice(0, nothing), "(FALSE)")
	wantText(t, x, u, choice(1, point(0, 0)), "(TRUE:p={x=0,y=0})")
	wantText(t, x, name, chars("a\"\x00"), `"a\"\x00"`)
	wantText(t, x, two, text(api.Fixed, "\x00\xff"), "#00ff")
	wantWrong(t, x, pointAt, "{x=2147483648,y=0}", api.ErrNotationRange, 3)
	wantWrong(t, x, pointAt, "{x=01,y=0}", api.ErrNotationForm, 3)
	wantWrong(t, x, pointAt, "{y=0}", api.ErrNotationForm, 1)
	wantWrong(t, x, pointAt, "{x=1,y=-1}", api.ErrNotationForm, 7)
	wantWrong(t, x, pointAt, "{x=1,y=1} ", api.ErrNotationForm, 9)
	wantWrong(t, x, name, `"abcde"`, api.ErrNotationRange, 0)
	wantWrong(t, x, name, `"\x41"`, api.ErrNotationForm, 1)
	wantWrong(t, x, name, `"ab`, api.ErrNotationForm, 3)
	wantWrong(t, x, two, "#00", api.ErrNotationRange, 0)
	wantWrong(t, x, two, "#0", api.ErrNotationForm, 0)
	wantWrong(t, x, u, "(maybe)", api.ErrNotationForm, 1)
	wantWrong(t, x, u, "(TRUE)", api.ErrNotationForm, 5)
}

// TestExampleOfTheWhole is DOC.md's first one, as far as it speaks of a text.
func TestExampleOfTheWhole(t *testing.T) {
	x := compiled(t, "struct point { int x; int y; };")
	v, e, n := notation.Parse(x, 8, "{x=1,y=-1}")
	if s, f := value.Encode(x, 8, v); s != "\x00\x00\x00\x01\xff\xff\xff\xff" || e != api.OK || n != 0 || f != api.OK {
		t.Errorf("%q, %d, %d, %d", s, e, n, f)
	}
}

// sample is a value of a type, and its text.
type sample struct {
	name string
	v    api.Value
	want string
}

// samples are of each kind, those at the bounds too.
var samples = []sample{
	{"void", nothing, "void"},
	{"int", whole(0), "0"},
	{"int", whole(7), "7"},
	{"int", whole(-1), "-1"},
	{"int", whole(10), "10"},
	{"int", whole(-100), "-100"},
	{"int", whole(math.MaxInt32), "2147483647"},
	{"int", whole(math.MinInt32), "-2147483648"},
	{"uint", num(api.Uint, 0), "0"},
	{"uint", num(api.Uint, 1<<31), "2147483648"},
	{"uint", num(api.Uint, api.MaxWord), "4294967295"},
	{"hyper", num(api.Hyper, 0), "0"},
	{"hyper", num(api.Hyper, -1), "-1"},
	{"hyper", num(api.Hyper, 1<<32), "4294967296"},
	{"hyper", num(api.Hyper, math.MaxInt), "9223372036854775807"},
	{"hyper", num(api.Hyper, math.MinInt), "-9223372036854775808"},
	{"uhyper", num(api.Uhyper, 0), "0"},
	{"uhyper", num(api.Uhyper, 9), "9"},
	{"uhyper", num(api.Uhyper, math.MaxInt), "9223372036854775807"},
	{"uhyper", num(api.Uhyper, math.MinInt), "9223372036854775808"},
	{"uhyper", num(api.Uhyper, math.MinInt+1), "9223372036854775809"},
	{"uhyper", num(api.Uhyper, -2), "18446744073709551614"},
	{"uhyper", num(api.Uhyper, -1), "18446744073709551615"},
	{"float", single(0), "0x0p+0"},
	{"float", single(float32(negative)), "-0x0p+0"},
	{"float", single(1), "0x1p+0"},
	{"float", single(-1.5), "-0x1.8p+0"},
	{"float", single(0.1), "0x1.99999ap-4"},
	{"float", single(math.SmallestNonzeroFloat32), "0x1p-149"},
	{"float", single(math.MaxFloat32), "0x1.fffffep+127"},
	{"float", single(float32(math.Inf(1))), "inf"},
	{"float", single(float32(math.Inf(-1))), "-inf"},
	{"float", single(float32(math.NaN())), "nan"},
	{"double", double(0), "0x0p+0"},
	{"double", double(negative), "-0x0p+0"},
	{"double", double(0.1), "0x1.999999999999ap-4"},
	{"double", double(-2), "-0x1p+1"},
	{"double", double(math.SmallestNonzeroFloat64), "0x1p-1074"},
	{"double", double(math.MaxFloat64), "0x1.fffffffffffffp+1023"},
	{"double", double(math.Inf(1)), "inf"},
	{"double", double(math.Inf(-1)), "-inf"},
	{"double", double(math.NaN()), "nan"},
	{"bool", num(api.Bool, 0), "FALSE"},
	{"bool", num(api.Bool, 1), "TRUE"},
	{"e", num(api.Enum, 5), "A"},
	{"e", num(api.Enum, 7), "AA"},
	{"e", num(api.Enum, -1), "B"},
	{"e", num(api.Enum, 0), "C"},
	{"e", num(api.Enum, math.MinInt32), "a_1"},
	{"e", num(api.Enum, math.MaxInt32), "none"},
	{"e", num(api.Enum, 1), "nan"},
	{"two", text(api.Fixed, "\x00\xff"), "#00ff"},
	{"two", text(api.Fixed, "\x1a\xa1"), "#1aa1"},
	{"two", text(api.Fixed, "#\""), "#2322"},
	{"some", text(api.Opaque, ""), "#"},
	{"some", text(api.Opaque, "\x09"), "#09"},
	{"some", text(api.Opaque, "abc"), "#616263"},
	{"bytes", text(api.Opaque, "\x01\x23\x45\x67\x89\xab\xcd\xef"), "#0123456789abcdef"},
	{"no_bytes", text(api.Opaque, ""), "#"},
	{"name", chars(""), `""`},
	{"name", chars(" ~!"), `" ~!"`},
	{"name", chars("ab,]"), `"ab,]"`},
	{"name", chars(`"\"\`), `"\"\\\"\\"`},
	{"name", chars("\x00\x1f\x7f\x80"), `"\x00\x1f\x7f\x80"`},
	{"name", chars("\n\t\r\xff"), `"\x0a\x09\x0d\xff"`},
	{"name", chars(`\x41`), `"\\x41"`},
	{"name", chars("\u00e4a"), `"\xc3\xa4a"`},
	{"name", chars("\ufffd"), `"\xef\xbf\xbd"`},
	{"name", chars("\xef\xbf"), `"\xef\xbf"`},
	{"name", chars("\U0001f600"), `"\xf0\x9f\x98\x80"`},
	{"name", chars("\xed\xa0\x80"), `"\xed\xa0\x80"`},
	{"name", chars("\xc3a\xc3"), `"\xc3a\xc3"`},
	{"chars", chars("#{x=1}(TRUE:p=[1,2]) none"), `"#{x=1}(TRUE:p=[1,2]) none"`},
	{"empty", chars(""), `""`},
	{"three", items(api.Array, whole(1), whole(-1), whole(3)), "[1,-1,3]"},
	{"pair", items(api.List), "[]"},
	{"pair", items(api.List, num(api.Enum, 5)), "[A]"},
	{"pair", items(api.List, num(api.Enum, 7), num(api.Enum, 0)), "[AA,C]"},
	{"no_ints", items(api.List), "[]"},
	{"row", items(api.Array, chars("a\""), chars("]")), `["a\"","]"]`},
	{"rows", items(api.List, items(api.Array, chars(","), chars("")), items(api.Array, chars(""), chars("\\"))), `[[",",""],["","\\"]]`},
	{"perhaps", items(api.Maybe), "none"},
	{"perhaps", items(api.Maybe, whole(7)), "*7"},
	{"twice", items(api.Maybe), "none"},
	{"twice", items(api.Maybe, items(api.Maybe)), "*none"},
	{"twice", items(api.Maybe, items(api.Maybe, whole(-7))), "**-7"},
	{"member", items(api.Maybe), "none"},
	{"member", items(api.Maybe, num(api.Enum, math.MaxInt32)), "*none"},
	{"point", point(1, -1), "{x=1,y=18446744073709551615}"},
	{"point", point(math.MinInt32, math.MinInt), "{x=-2147483648,y=9223372036854775808}"},
	{"alike", parts(whole(1), whole(2), whole(3)), "{f=1,ff=2,f1=3}"},
	{"all", parts(single(1), double(-2), text(api.Fixed, "hi"), num(api.Enum, 5), num(api.Bool, 1), chars("=")), `{f=0x1p+0,d=-0x1p+1,o=#6869,k=A,b=TRUE,s="="}`},
	{"points", items(api.List, point(1, 2), point(3, 4)), "[{x=1,y=2},{x=3,y=4}]"},
	{"u", choice(0, nothing), "(FALSE)"},
	{"u", choice(1, point(2, 3)), "(TRUE:p={x=2,y=3})"},
	{"byint", choice(-1, whole(4)), "(-1:a=4)"},
	{"byint", choice(7, whole(-4)), "(7:a=-4)"},
	{"byint", choice(2, chars("a)")), `(2:s="a)")`},
	{"byword", choice(api.MaxWord, num(api.Hyper, -1)), "(4294967295:h=-1)"},
	{"byword", choice(0, nothing), "(0)"},
	{"byword", choice(1<<31, num(api.Bool, 1)), "(2147483648:b=TRUE)"},
	{"byenum", choice(5, nothing), "(A)"},
	{"byenum", choice(7, single(1)), "(AA:f=0x1p+0)"},
	{"byenum", choice(1, single(float32(math.NaN()))), "(nan:f=nan)"},
	{"bymember", choice(5, whole(1)), "(A:aa=1)"},
	{"bymember", choice(7, whole(1)), "(AA:aaa=1)"},
	{"bymember", choice(-1, nothing), "(B)"},
	{"bytrue", choice(1, whole(1)), "(TRUE:a=1)"},
	{"shapes", items(api.List, choice(0, nothing), choice(1, point(0, 0))), "[(FALSE),(TRUE:p={x=0,y=0})]"},
	{"nest", parts(items(api.List, parts(items(api.List)), parts(items(api.List, parts(items(api.List)))))), "{kids=[{kids=[]},{kids=[{kids=[]}]}]}"},
	{"cell", parts(whole(1), items(api.Maybe, parts(whole(2), items(api.Maybe)))), "{n=1,next=*{n=2,next=none}}"},
	{"mix", parts(num(api.Enum, -1), choice(7, whole(1)), whole(2)), "{k=B,u=(7:a=1),n=2}"},
}

// TestTexts is V1 and V2 of values as they should be.
func TestTexts(t *testing.T) {
	x := compiled(t, source)
	came := map[int]int{}
	for _, c := range samples {
		wantText(t, x, place(t, x, c.name), c.v, c.want)
		came[c.v.Kind]++
	}
	for kind := range api.Union + 1 {
		if came[kind] == 0 {
			t.Errorf("the kind %d has no sample", kind)
		}
	}
}

// TestNaN: whatever bits the language has of it, it has one text.
func TestNaN(t *testing.T) {
	x := compiled(t, source)
	for _, b := range []uint32{0x7fc00000, 0x7f800001, 0x7fffffff, 0xffc00000, 0xff800001} {
		wantText(t, x, api.Float, single(math.Float32frombits(b)), "nan")
	}
	for _, b := range []uint64{0x7ff8000000000000, 0x7ff0000000000001, 0xfff8000000000000, 0xffffffffffffffff} {
		wantText(t, x, api.Double, double(math.Float64frombits(b)), "nan")
	}
	f, _, _ := notation.Parse(x, api.Float, "nan")
	d, _, _ := notation.Parse(x, api.Double, "nan")
	if math.Float32bits(f.Single) != 0x7fc00000 || math.Float64bits(d.Double) != 0x7ff8000000000000 {
		t.Errorf("%x, %x", math.Float32bits(f.Single), math.Float64bits(d.Double))
	}
}

// TestBytesOfStrings is V1 and V2: each byte of a string, alone, doubled, and between others, is written in one way.
func TestBytesOfStrings(t *testing.T) {
	x := compiled(t, source)
	name := place(t, x, "name")
	for b := range 256 {
		want := fmt.Sprintf(`\x%02x`, b)
		switch {
		case b == '"':
			want = `\"`
		case b == '\\':
			want = `\\`
		case b >= ' ' && b <= '~':
			want = string(rune(b))
		}
		one := string([]byte{byte(b)})
		wantText(t, x, name, chars(one), `"`+want+`"`)
		wantText(t, x, name, chars(one+one), `"`+want+want+`"`)
		wantText(t, x, name, chars("a"+one+"z"), `"a`+want+`z"`)
		wantText(t, x, name, chars("\xc3"+one+"\xa4"), `"\xc3`+want+`\xa4"`)
		if raw := `"a` + one + `z"`; len(want) > 1 && b != '"' {
			wantWrong(t, x, name, raw, api.ErrNotationForm, 2)
		}
		for _, other := range []string{`\x%02x`, `\x%02X`, `\x%x`, `\x%03x`, `\X%02x`, `\%o`, `\%c`, `\u00%02x`} {
			// Some of these begin with what stands for this byte, or for another one.
			if s := fmt.Sprintf(other, b); modelUnits(s) == 0 {
				wantWrong(t, x, name, `"`+s+`"`, api.ErrNotationForm, 1)
				wantWrong(t, x, name, `"a`+s+`"`, api.ErrNotationForm, 2)
				wantWrong(t, x, name, `"\\`+s, api.ErrNotationForm, 3)
			}
		}
	}
}

// TestBytesOfOpaques is V1 and V2: each byte of an opaque has its two digits.
func TestBytesOfOpaques(t *testing.T) {
	x := compiled(t, source)
	two, some := place(t, x, "two"), place(t, x, "some")
	for b := range 256 {
		one := string([]byte{byte(b)})
		wantText(t, x, two, text(api.Fixed, one+"\x0f"), fmt.Sprintf("#%02x0f", b))
		wantText(t, x, some, text(api.Opaque, one), fmt.Sprintf("#%02x", b))
		if upper := fmt.Sprintf("#%02X", b); upper != strings.ToLower(upper) {
			// The run of digits ends there: behind the mark it is empty, behind one digit odd.
			where := strings.IndexAny(upper, "ABCDEF")
			if where == 2 {
				where = 0
			}
			wantWrong(t, x, some, upper, api.ErrNotationForm, where)
		}
	}
}

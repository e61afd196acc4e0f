package value_test

import (
	"fmt"
	"math"
	"strings"
	"testing"

	"callbox/api"
	"callbox/schema"
	"callbox/value"
)

// source has types of all kinds.
const source = `
struct point { int x; int y; };
union shape switch (bool b) { case TRUE: point p; default: void; };
struct cell { unsigned hyper n; cell *next; };
enum e { A = 5, B = -1, C = 0 };
typedef opaque two[2];
typedef opaque some<5>;
typedef string name<4>;
typedef int three[3];
typedef e pair<2>;
typedef int *perhaps;
union byint switch (int d) { case -1: case 7: int a; case 2: string s<>; };
union byword switch (unsigned int d) { case 4294967295: hyper h; case 0: void; default: bool b; };
union byenum switch (e d) { case A: void; default: float f; };
union bymember switch (e d) { case A: int a; case B: void; };
union bytrue switch (bool d) { case TRUE: int a; };
struct all { float f; double d; two o; e k; bool b; };
typedef int ints<>;
typedef opaque bytes<>;
typedef string chars<>;
typedef point points<3>;
typedef shape shapes<>;
struct nest { nest kids<>; };
struct mix { e k; byint u; int n; };
typedef int none<0>;
typedef string empty<0>;
`

func compiled(t testing.TB, s string) api.Schema {
	t.Helper()
	x, e, at := schema.Compile(s)
	if e != api.OK {
		t.Fatalf("%s: %d at %d", s, e, at)
	}
	return x
}

// place is that of a type: a name of the schema's, or one of the language's own.
func place(t testing.TB, x api.Schema, name string) int {
	t.Helper()
	for i, own := range strings.Fields("void int uint hyper uhyper float double bool") {
		if name == own {
			return i
		}
	}
	at, is := schema.Find(x, name)
	if !is {
		t.Fatalf("no type %s", name)
	}
	return at
}

func num(kind, n int) api.Value { return api.Value{Kind: kind, Int: n} }

func whole(n int) api.Value { return num(api.Int, n) }

func single(f float32) api.Value { return api.Value{Kind: api.Float, Single: f} }

func double(f float64) api.Value { return api.Value{Kind: api.Double, Double: f} }

func text(kind int, s string) api.Value { return api.Value{Kind: kind, Text: s} }

func items(kind int, l ...api.Value) api.Value { return api.Value{Kind: kind, Items: l} }

func parts(l ...api.Value) api.Value { return items(api.Struct, l...) }

func choice(n int, v api.Value) api.Value {
	return api.Value{Kind: api.Union, Int: n, Items: []api.Value{v}}
}

var nothing = api.Value{}

// cells are n of them in a row; the last one is number -1.
func cells(n int) api.Value {
	v := parts(num(api.Uhyper, -1), items(api.Maybe))
	for range n - 1 {
		v = parts(num(api.Uhyper, 0), items(api.Maybe, v))
	}
	return v
}

// short is as much of a value as a failing test shows.
func short(v any) string {
	s := fmt.Sprintf("%#v", v)
	if len(s) > 700 {
		return s[:500] + " .. " + s[len(s)-150:]
	}
	return s
}

// alike: are values the same, told without the package that is tested?
func alike(a, b api.Value) bool {
	if a.Kind != b.Kind || a.Int != b.Int || a.Text != b.Text || len(a.Items) != len(b.Items) || bits32(a.Single) != bits32(b.Single) || bits64(a.Double) != bits64(b.Double) {
		return false
	}
	for i := range a.Items {
		if !alike(a.Items[i], b.Items[i]) {
			return false
		}
	}
	return true
}

// wantBytes: a value and its bytes are each other's.
func wantBytes(t *testing.T, x api.Schema, at int, v api.Value, want string) {
	t.Helper()
	if e := value.Fits(x, at, v); e != api.OK {
		t.Errorf("type %d: %s: %d", at, short(v), e)
	}
	if s, e := value.Encode(x, at, v); s != want || e != api.OK {
		t.Errorf("type %d: %s: %q, %d, not %q", at, short(v), s, e, want)
	}
	if got, e := value.Decode(x, at, want); !alike(got, v) || e != api.OK {
		t.Errorf("type %d: %q: %s, %d, not %s", at, want, short(got), e, short(v))
	}
}

// wantNone: a value is none of a type.
func wantNone(t *testing.T, x api.Schema, at int, v api.Value, want api.Errno) {
	t.Helper()
	if e := value.Fits(x, at, v); e != want {
		t.Errorf("type %d: %s: %d, not %d", at, short(v), e, want)
	}
	if s, e := value.Encode(x, at, v); s != "" || e != want {
		t.Errorf("type %d: %s: %q, %d, not %d", at, short(v), s, e, want)
	}
}

// wantRefused: a text is none of a type.
func wantRefused(t *testing.T, x api.Schema, at int, s string, want api.Errno) {
	t.Helper()
	if v, e := value.Decode(x, at, s); e != want || !alike(v, nothing) {
		t.Errorf("type %d: %s: %s, %d, not %d", at, short(s), short(v), e, want)
	}
}

// TestExamples are the chapter's, and DOC.md's first one.
func TestExamples(t *testing.T) {
	x := compiled(t, "struct point { int x; int y; }; union shape switch (bool b) { case TRUE: point p; default: void; }; struct cell { unsigned hyper n; cell *next; };")
	point, shape, cell := place(t, x, "point"), place(t, x, "shape"), place(t, x, "cell")
	wantBytes(t, x, point, parts(whole(1), whole(-1)), "\x00\x00\x00\x01\xff\xff\xff\xff")
	wantNone(t, x, point, parts(whole(1), whole(-1), whole(0)), api.ErrValueType)
	more := parts(whole(1), whole(-1))
	more.Text = "x"
	wantNone(t, x, point, more, api.ErrValueType)
	wantBytes(t, x, shape, choice(0, nothing), "\x00\x00\x00\x00")
	wantNone(t, x, shape, choice(1, nothing), api.ErrValueType)
	wantNone(t, x, shape, choice(2, nothing), api.ErrValueType)
	wantNone(t, x, shape, choice(2, parts(whole(1), whole(1))), api.ErrValueType)
	wantBytes(t, x, cell, parts(num(api.Uhyper, -1), items(api.Maybe)), strings.Repeat("\xff", 8)+"\x00\x00\x00\x00")
	if d := value.Depth(cells(32)); d != 64 {
		t.Errorf("32 cells are %d deep", d)
	}
	wantBytes(t, x, cell, cells(32), strings.Repeat("\x00\x00\x00\x00\x00\x00\x00\x00\x00\x00\x00\x01", 31)+strings.Repeat("\xff", 8)+"\x00\x00\x00\x00")
	if d := value.Depth(cells(33)); d != 66 {
		t.Errorf("33 cells are %d deep", d)
	}
	wantNone(t, x, cell, cells(33), api.ErrValueDeep)
	wantRefused(t, x, api.Bool, "\x00\x00\x00\x02", api.ErrXdrBool)
	wantRefused(t, x, shape, "\x00\x00\x00\x02", api.ErrXdrBool)
	wantRefused(t, x, shape, "\x00\x00\x00\x01\x00\x00\x00\x01\x00\x00", api.ErrXdrShort)
}

// sample is a value of a type, and its bytes.
type sample struct {
	name string
	v    api.Value
	want string
}

// samples are of each kind, those at the bounds too.
var samples = []sample{
	{"void", nothing, ""},
	{"int", whole(0), "\x00\x00\x00\x00"},
	{"int", whole(math.MaxInt32), "\x7f\xff\xff\xff"},
	{"int", whole(math.MinInt32), "\x80\x00\x00\x00"},
	{"int", whole(-2), "\xff\xff\xff\xfe"},
	{"uint", num(api.Uint, 0), "\x00\x00\x00\x00"},
	{"uint", num(api.Uint, 258), "\x00\x00\x01\x02"},
	{"uint", num(api.Uint, api.MaxWord), "\xff\xff\xff\xff"},
	{"hyper", num(api.Hyper, 1), "\x00\x00\x00\x00\x00\x00\x00\x01"},
	{"hyper", num(api.Hyper, math.MaxInt), "\x7f\xff\xff\xff\xff\xff\xff\xff"},
	{"hyper", num(api.Hyper, math.MinInt), "\x80\x00\x00\x00\x00\x00\x00\x00"},
	{"uhyper", num(api.Uhyper, math.MaxInt), "\x7f\xff\xff\xff\xff\xff\xff\xff"},
	{"uhyper", num(api.Uhyper, math.MinInt), "\x80\x00\x00\x00\x00\x00\x00\x00"},
	{"uhyper", num(api.Uhyper, -1), "\xff\xff\xff\xff\xff\xff\xff\xff"},
	{"float", single(0), "\x00\x00\x00\x00"},
	{"float", single(float32(math.Copysign(0, -1))), "\x80\x00\x00\x00"},
	{"float", single(1), "\x3f\x80\x00\x00"},
	{"float", single(math.SmallestNonzeroFloat32), "\x00\x00\x00\x01"},
	{"float", single(-math.MaxFloat32), "\xff\x7f\xff\xff"},
	{"float", single(float32(math.Inf(1))), "\x7f\x80\x00\x00"},
	{"float", single(float32(math.NaN())), "\x7f\xc0\x00\x00"},
	{"double", double(0), "\x00\x00\x00\x00\x00\x00\x00\x00"},
	{"double", double(math.Copysign(0, -1)), "\x80\x00\x00\x00\x00\x00\x00\x00"},
	{"double", double(-2), "\xc0\x00\x00\x00\x00\x00\x00\x00"},
	{"double", double(math.SmallestNonzeroFloat64), "\x00\x00\x00\x00\x00\x00\x00\x01"},
	{"double", double(math.MaxFloat64), "\x7f\xef\xff\xff\xff\xff\xff\xff"},
	{"double", double(math.Inf(-1)), "\xff\xf0\x00\x00\x00\x00\x00\x00"},
	{"double", double(math.NaN()), "\x7f\xf8\x00\x00\x00\x00\x00\x00"},
	{"bool", num(api.Bool, 0), "\x00\x00\x00\x00"},
	{"bool", num(api.Bool, 1), "\x00\x00\x00\x01"},
	{"e", num(api.Enum, 5), "\x00\x00\x00\x05"},
	{"e", num(api.Enum, -1), "\xff\xff\xff\xff"},
	{"e", num(api.Enum, 0), "\x00\x00\x00\x00"},
	{"two", text(api.Fixed, "hi"), "hi\x00\x00"},
	{"two", text(api.Fixed, "\x00\xff"), "\x00\xff\x00\x00"},
	{"some", text(api.Opaque, ""), "\x00\x00\x00\x00"},
	{"some", text(api.Opaque, "abc"), "\x00\x00\x00\x03abc\x00"},
	{"some", text(api.Opaque, "abcd"), "\x00\x00\x00\x04abcd"},
	{"some", text(api.Opaque, "abcde"), "\x00\x00\x00\x05abcde\x00\x00\x00"},
	{"name", text(api.String, ""), "\x00\x00\x00\x00"},
	{"name", text(api.String, "\xff\x00\x80"), "\x00\x00\x00\x03\xff\x00\x80\x00"},
	{"name", text(api.String, "\xc3\xa4\xc3"), "\x00\x00\x00\x03\xc3\xa4\xc3\x00"},
	{"name", text(api.String, "abcd"), "\x00\x00\x00\x04abcd"},
	{"empty", text(api.String, ""), "\x00\x00\x00\x00"},
	{"three", items(api.Array, whole(1), whole(-1), whole(3)), "\x00\x00\x00\x01\xff\xff\xff\xff\x00\x00\x00\x03"},
	{"pair", items(api.List), "\x00\x00\x00\x00"},
	{"pair", items(api.List, num(api.Enum, 5)), "\x00\x00\x00\x01\x00\x00\x00\x05"},
	{"pair", items(api.List, num(api.Enum, 5), num(api.Enum, 0)), "\x00\x00\x00\x02\x00\x00\x00\x05\x00\x00\x00\x00"},
	{"none", items(api.List), "\x00\x00\x00\x00"},
	{"perhaps", items(api.Maybe), "\x00\x00\x00\x00"},
	{"perhaps", items(api.Maybe, whole(7)), "\x00\x00\x00\x01\x00\x00\x00\x07"},
	{"point", parts(whole(1), whole(-1)), "\x00\x00\x00\x01\xff\xff\xff\xff"},
	{"all", parts(single(1), double(-2), text(api.Fixed, "hi"), num(api.Enum, 5), num(api.Bool, 1)), "\x3f\x80\x00\x00\xc0\x00\x00\x00\x00\x00\x00\x00hi\x00\x00\x00\x00\x00\x05\x00\x00\x00\x01"},
	{"shape", choice(1, parts(whole(2), whole(3))), "\x00\x00\x00\x01\x00\x00\x00\x02\x00\x00\x00\x03"},
	{"byint", choice(-1, whole(4)), "\xff\xff\xff\xff\x00\x00\x00\x04"},
	{"byint", choice(7, whole(4)), "\x00\x00\x00\x07\x00\x00\x00\x04"},
	{"byint", choice(2, text(api.String, "a")), "\x00\x00\x00\x02\x00\x00\x00\x01a\x00\x00\x00"},
	{"byword", choice(api.MaxWord, num(api.Hyper, 1)), "\xff\xff\xff\xff\x00\x00\x00\x00\x00\x00\x00\x01"},
	{"byword", choice(0, nothing), "\x00\x00\x00\x00"},
	{"byword", choice(1<<31, num(api.Bool, 1)), "\x80\x00\x00\x00\x00\x00\x00\x01"},
	{"byenum", choice(5, nothing), "\x00\x00\x00\x05"},
	{"byenum", choice(-1, single(1)), "\xff\xff\xff\xff\x3f\x80\x00\x00"},
	{"byenum", choice(0, single(1)), "\x00\x00\x00\x00\x3f\x80\x00\x00"},
	{"bymember", choice(5, whole(1)), "\x00\x00\x00\x05\x00\x00\x00\x01"},
	{"bymember", choice(-1, nothing), "\xff\xff\xff\xff"},
	{"bytrue", choice(1, whole(1)), "\x00\x00\x00\x01\x00\x00\x00\x01"},
	{"points", items(api.List, parts(whole(1), whole(2)), parts(whole(3), whole(4))), "\x00\x00\x00\x02\x00\x00\x00\x01\x00\x00\x00\x02\x00\x00\x00\x03\x00\x00\x00\x04"},
	{"shapes", items(api.List, choice(0, nothing), choice(0, nothing)), "\x00\x00\x00\x02\x00\x00\x00\x00\x00\x00\x00\x00"},
	{"mix", parts(num(api.Enum, 5), choice(7, whole(1)), whole(2)), "\x00\x00\x00\x05\x00\x00\x00\x07\x00\x00\x00\x01\x00\x00\x00\x02"},
}

// TestBytes is A1, A3 and A4 of values as they should be.
func TestBytes(t *testing.T) {
	x := compiled(t, source)
	came := map[int]int{}
	for _, c := range samples {
		wantBytes(t, x, place(t, x, c.name), c.v, c.want)
		came[c.v.Kind]++
	}
	for kind := range api.Union + 1 {
		if came[kind] == 0 {
			t.Errorf("the kind %d has no sample", kind)
		}
	}
}

// TestNaN: whatever bits the language has of it, it is laid down as the one, and is zero nowhere.
func TestNaN(t *testing.T) {
	x := compiled(t, source)
	for _, b := range []uint32{0x7fc00000, 0x7f800001, 0x7fffffff, 0xffc00000, 0xff800001} {
		wantBytes(t, x, api.Float, single(math.Float32frombits(b)), "\x7f\xc0\x00\x00")
	}
	for _, b := range []uint64{0x7ff8000000000000, 0x7ff0000000000001, 0xfff8000000000000, 0xffffffffffffffff} {
		wantBytes(t, x, api.Double, double(math.Float64frombits(b)), "\x7f\xf8\x00\x00\x00\x00\x00\x00")
	}
}

// TestLeast is A2.
func TestLeast(t *testing.T) {
	x := compiled(t, source+`
		union first switch (int d) { case 3: case -9: mix m; case 0: void; };
		union within switch (bool b) { case TRUE: void; case FALSE: int a; };
		struct some2 { all a[2]; first u; within w; pair p; chars c; bytes o; perhaps m; };`)
	all := parts(single(0), double(0), text(api.Fixed, "\x00\x00"), num(api.Enum, 5), num(api.Bool, 0))
	first := choice(3, parts(num(api.Enum, 5), choice(-1, whole(0)), whole(0)))
	for _, c := range []struct {
		name string
		want api.Value
	}{
		{"void", nothing}, {"int", whole(0)}, {"uint", num(api.Uint, 0)}, {"hyper", num(api.Hyper, 0)}, {"uhyper", num(api.Uhyper, 0)},
		{"float", single(0)}, {"double", double(0)}, {"bool", num(api.Bool, 0)},
		{"e", num(api.Enum, 5)}, {"two", text(api.Fixed, "\x00\x00")}, {"some", text(api.Opaque, "")}, {"name", text(api.String, "")},
		{"three", items(api.Array, whole(0), whole(0), whole(0))}, {"pair", items(api.List)}, {"perhaps", items(api.Maybe)},
		{"point", parts(whole(0), whole(0))}, {"cell", parts(num(api.Uhyper, 0), items(api.Maybe))}, {"nest", parts(items(api.List))},
		{"shape", choice(1, parts(whole(0), whole(0)))}, {"byint", choice(-1, whole(0))}, {"byword", choice(api.MaxWord, num(api.Hyper, 0))},
		{"byenum", choice(5, nothing)}, {"bytrue", choice(1, whole(0))}, {"all", all}, {"first", first}, {"within", choice(1, nothing)},
		{"some2", parts(items(api.Array, all, all), first, choice(1, nothing), items(api.List), text(api.String, ""), text(api.Opaque, ""), items(api.Maybe))},
	} {
		at := place(t, x, c.name)
		got, e := value.Least(x, at)
		if !alike(got, c.want) || e != api.OK {
			t.Errorf("%s: %s, %d, not %s", c.name, short(got), e, short(c.want))
		}
		if e := value.Fits(x, at, got); e != api.OK {
			t.Errorf("%s: the least one is none: %d", c.name, e)
		}
	}
}

// TestSameAndDepth is A5, of values of no type too.
func TestSameAndDepth(t *testing.T) {
	negative := math.Copysign(0, -1)
	base := func() api.Value {
		return api.Value{Kind: 77, Int: 1, Single: 2, Double: 3, Text: "x", Items: []api.Value{whole(1), items(99, double(math.NaN()), single(0)), double(0)}}
	}
	if !value.Same(base(), base()) || !value.Same(nothing, api.Value{Items: []api.Value{}}) {
		t.Error("not the same")
	}
	for i, spoil := range []func(v *api.Value){
		func(v *api.Value) { v.Kind++ },
		func(v *api.Value) { v.Int = -1 },
		func(v *api.Value) { v.Single = 4 },
		func(v *api.Value) { v.Single = float32(math.NaN()) },
		func(v *api.Value) { v.Double = 4 },
		func(v *api.Value) { v.Double = math.NaN() },
		func(v *api.Value) { v.Text = "y" },
		func(v *api.Value) { v.Text = "" },
		func(v *api.Value) { v.Items = nil },
		func(v *api.Value) { v.Items = v.Items[:2] },
		func(v *api.Value) { v.Items = append(v.Items, nothing) },
		func(v *api.Value) { v.Items[0], v.Items[2] = v.Items[2], v.Items[0] },
		func(v *api.Value) { v.Items[0].Int = 2 },
		func(v *api.Value) { v.Items[1].Items[0].Double = 0 },
		func(v *api.Value) { v.Items[1].Items[1].Single = float32(negative) },
		func(v *api.Value) { v.Items[2].Double = negative },
	} {
		v := base()
		spoil(&v)
		if value.Same(v, base()) || value.Same(base(), v) || !value.Same(v, v) {
			t.Errorf("change %d: the same", i)
		}
	}
	if !value.Same(double(math.NaN()), double(math.Float64frombits(0xfff0000000000001))) || !value.Same(single(float32(math.NaN())), single(math.Float32frombits(0xffffffff))) {
		t.Error("there are two NaNs")
	}
	for _, c := range []struct {
		v    api.Value
		want int
	}{
		{nothing, 1}, {whole(1), 1}, {parts(nothing), 2}, {parts(nothing, nothing), 2}, {base(), 3}, {cells(1), 2}, {cells(2), 4},
		{items(5, parts(parts(nothing)), nothing), 4}, {items(5, nothing, parts(parts(nothing))), 4}, {items(5, parts(nothing), parts(parts(nothing)), nothing), 4},
	} {
		if d := value.Depth(c.v); d != c.want {
			t.Errorf("%s: %d, not %d", short(c.v), d, c.want)
		}
	}
}

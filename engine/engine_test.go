package engine_test

import (
	"fmt"
	"math"
	"strings"
	"testing"

	"callbox/api"
	"callbox/codec"
	"callbox/engine"
	"callbox/schema"
)

// source has types of all kinds, and so all operations.
const source = `
struct point { int x; int y; };
union shape switch (bool b) { case TRUE: point p; default: void; };
struct cell { unsigned hyper n; cell *next; };
enum e { A = 5, B = -1, C = 0 };
typedef opaque two[2];
typedef opaque some<5>;
typedef string name<4>;
typedef int three[3];
typedef e pair<2>;
typedef int *perhaps;
union byint switch (int d) { case -1: case 7: int a; case 2: string s<>; };
union byword switch (unsigned int d) { case 4294967295: hyper h; case 0: void; default: bool b; };
union byenum switch (e d) { case A: void; default: float f; };
union bymember switch (e d) { case A: int a; case B: void; };
union bytrue switch (bool d) { case TRUE: int a; };
struct all { float f; double d; two o; e k; bool b; };
typedef int ints<>;
typedef opaque bytes<>;
typedef string chars<>;
typedef point points<3>;
typedef shape shapes<>;
struct nest { nest kids<>; };
struct mix { e k; byint u; int n; };
typedef int none<0>;
typedef string empty<0>;
struct plain { int a; unsigned int b; hyper c; unsigned hyper d; float e1; double f; bool g; };
typedef shape grid[2];
typedef grid *maygrid;
`

// coded is a source's schema, and the code of that.
func coded(t testing.TB, s string) (api.Schema, api.Code) {
	t.Helper()
	x, e, at := schema.Compile(s)
	if e != api.OK {
		t.Fatalf("%s: %d at %d", s, e, at)
	}
	c, e := codec.Lower(x)
	if e != api.OK {
		t.Fatalf("%s: %d", s, e)
	}
	return x, c
}

// place is that of a type, and so of its entry: a name of the schema's, or one of the language's own.
func place(t testing.TB, x api.Schema, name string) int {
	t.Helper()
	for i, own := range strings.Fields("void int uint hyper uhyper float double bool") {
		if name == own {
			return i
		}
	}
	at, is := schema.Find(x, name)
	if !is {
		t.Fatalf("no type %s", name)
	}
	return at
}

func num(kind, n int) api.Value { return api.Value{Kind: kind, Int: n} }

func whole(n int) api.Value { return num(api.Int, n) }

func single(f float32) api.Value { return api.Value{Kind: api.Float, Single: f} }

func double(f float64) api.Value { return api.Value{Kind: api.Double, Double: f} }

func text(kind int, s string) api.Value { return api.Value{Kind: kind, Text: s} }

func items(kind int, l ...api.Value) api.Value { return api.Value{Kind: kind, Items: l} }

func parts(l ...api.Value) api.Value { return items(api.Struct, l...) }

func choice(n int, v api.Value) api.Value {
	return api.Value{Kind: api.Union, Int: n, Items: []api.Value{v}}
}

var nothing = api.Value{}

// cells are n of them in a row; the last one is number -1.
func cells(n int) api.Value {
	v := parts(num(api.Uhyper, -1), items(api.Maybe))
	for range n - 1 {
		v = parts(num(api.Uhyper, 0), items(api.Maybe, v))
	}
	return v
}

// short is as much of a thing as a failing test shows.
func short(v any) string {
	s := fmt.Sprintf("%#v", v)
	if len(s) > 900 {
		return s[:700] + " .. " + s[len(s)-150:]
	}
	return s
}

func bits32(f float32) uint32 {
	if f != f {
		return 0x7fc00000
	}
	return math.Float32bits(f)
}

func bits64(f float64) uint64 {
	if f != f {
		return 0x7ff8000000000000
	}
	return math.Float64bits(f)
}

// alike: are values the same, told without the program?
func alike(a, b api.Value) bool {
	if a.Kind != b.Kind || a.Int != b.Int || a.Text != b.Text || bits32(a.Single) != bits32(b.Single) || bits64(a.Double) != bits64(b.Double) {
		return false
	}
	return allAlike(a.Items, b.Items)
}

func allAlike(a, b []api.Value) bool {
	if len(a) != len(b) {
		return false
	}
	for i := range a {
		if !alike(a[i], b[i]) {
			return false
		}
	}
	return true
}

// The next ones hold an answer of one call against what is wanted; with an error all else is wanted to be zero.

func wantEncode(t testing.TB, c api.Code, entry int, v api.Value, fuel int, s string, left int, e api.Errno) {
	t.Helper()
	gotS, gotLeft, gotE := engine.Encode(c, entry, v, fuel)
	if gotS != s || gotLeft != left || gotE != e {
		t.Errorf("Encode by %d of %s with %d: %q, %d, %d, not %q, %d, %d", entry, short(v), fuel, gotS, gotLeft, gotE, s, left, e)
	}
}

func wantDecode(t testing.TB, c api.Code, entry int, s string, fuel int, v api.Value, left int, e api.Errno) {
	t.Helper()
	gotV, gotLeft, gotE := engine.Decode(c, entry, s, fuel)
	if !alike(gotV, v) || gotLeft != left || gotE != e {
		t.Errorf("Decode by %d of %s with %d: %s, %d, %d, not %s, %d, %d", entry, short(s), fuel, short(gotV), gotLeft, gotE, short(v), left, e)
	}
}

func wantPack(t testing.TB, c api.Code, entries []int, l []api.Value, fuel int, s string, left int, e api.Errno) {
	t.Helper()
	gotS, gotLeft, gotE := engine.Pack(c, entries, l, fuel)
	if gotS != s || gotLeft != left || gotE != e {
		t.Errorf("Pack by %v of %s with %d: %q, %d, %d, not %q, %d, %d", entries, short(l), fuel, gotS, gotLeft, gotE, s, left, e)
	}
}

func wantUnpack(t testing.TB, c api.Code, entries []int, s string, fuel int, l []api.Value, left int, e api.Errno) {
	t.Helper()
	gotL, gotLeft, gotE := engine.Unpack(c, entries, s, fuel)
	if !allAlike(gotL, l) || gotLeft != left || gotE != e {
		t.Errorf("Unpack by %v of %s with %d: %s, %d, %d, not %s, %d, %d", entries, short(s), fuel, short(gotL), gotLeft, gotE, short(l), left, e)
	}
}

// plenty is more fuel than any value needs.
const plenty = 1 << 20

// wantBytes: a value and its bytes are each other's, and both ways cost so much.
func wantBytes(t testing.TB, c api.Code, entry int, v api.Value, s string, cost int) {
	t.Helper()
	for _, more := range []int{0, 1, 7, plenty, math.MaxInt - cost} {
		wantEncode(t, c, entry, v, cost+more, s, more, api.OK)
		wantDecode(t, c, entry, s, cost+more, v, more, api.OK)
	}
	for _, fuel := range []int{cost - 1, cost / 2, 1, 0, -1, math.MinInt} {
		if fuel < cost {
			wantEncode(t, c, entry, v, fuel, "", 0, api.ErrEngineFuel)
			wantDecode(t, c, entry, s, fuel, nothing, 0, api.ErrEngineFuel)
		}
	}
}

// wantNone: a value is none of an entry, which comes to light once so much fuel is spent.
func wantNone(t testing.TB, c api.Code, entry int, v api.Value, e api.Errno, spent int) {
	t.Helper()
	for _, more := range []int{0, 1, plenty} {
		wantEncode(t, c, entry, v, spent+more, "", 0, e)
	}
	if spent > 0 {
		wantEncode(t, c, entry, v, spent-1, "", 0, api.ErrEngineFuel)
		wantEncode(t, c, entry, v, 0, "", 0, api.ErrEngineFuel)
	}
}

// wantRefused: bytes are none of an entry, likewise.
func wantRefused(t testing.TB, c api.Code, entry int, s string, e api.Errno, spent int) {
	t.Helper()
	for _, more := range []int{0, 1, plenty} {
		wantDecode(t, c, entry, s, spent+more, nothing, 0, e)
	}
	if spent > 0 {
		wantDecode(t, c, entry, s, spent-1, nothing, 0, api.ErrEngineFuel)
		wantDecode(t, c, entry, s, 0, nothing, 0, api.ErrEngineFuel)
	}
}

const both = "\x00\x00\x00\x01\xff\xff\xff\xff"

// TestExamples are the chapter's, and DOC.md's first one.
func TestExamples(t *testing.T) {
	_, c := coded(t, "struct point { int x; int y; };")
	one := parts(whole(1), whole(-1))
	wantEncode(t, c, 8, one, 10, both, 6, api.OK)
	wantEncode(t, c, 8, one, 4, both, 0, api.OK)
	wantEncode(t, c, 8, one, 3, "", 0, api.ErrEngineFuel)
	wantDecode(t, c, 8, "\x00\x00\x00\x01\x00\x00\x00", 10, nothing, 0, api.ErrXdrShort)
	wantDecode(t, c, 8, both+"\x00\x00\x00\x00", 10, nothing, 0, api.ErrXdrMore)
	wantDecode(t, c, 8, both+"\x00\x00\x00\x00", 1, nothing, 0, api.ErrEngineFuel)
	wantDecode(t, c, 8, both, 1, nothing, 0, api.ErrEngineFuel)
	wantDecode(t, c, 8, both, 10, one, 6, api.OK)
	wantEncode(t, c, 1, whole(5), 2, "\x00\x00\x00\x05", 0, api.OK)
	wantEncode(t, c, 9, whole(5), 2, "", 0, api.ErrEngineCode)
	wantEncode(t, c, 1, num(api.Uint, 5), 2, "", 0, api.ErrEngineValue)
	wantPack(t, c, []int{1, 8}, []api.Value{whole(5), one}, 6, "\x00\x00\x00\x05"+both, 0, api.OK)
	wantPack(t, c, []int{1, 8}, []api.Value{whole(5)}, 6, "", 0, api.ErrEngineValue)
	wantUnpack(t, c, []int{1, 8}, "\x00\x00\x00\x05"+both, 6, []api.Value{whole(5), one}, 0, api.OK)
}

// sample is a value of a type, its bytes, and how many operations are done for it.
type sample struct {
	name string
	v    api.Value
	want string
	cost int
}

// samples are of each kind, those at the bounds too.
var samples = []sample{
	{"void", nothing, "", 2},
	{"int", whole(0), "\x00\x00\x00\x00", 2},
	{"int", whole(math.MaxInt32), "\x7f\xff\xff\xff", 2},
	{"int", whole(math.MinInt32), "\x80\x00\x00\x00", 2},
	{"int", whole(-2), "\xff\xff\xff\xfe", 2},
	{"uint", num(api.Uint, 0), "\x00\x00\x00\x00", 2},
	{"uint", num(api.Uint, 258), "\x00\x00\x01\x02", 2},
	{"uint", num(api.Uint, api.MaxWord), "\xff\xff\xff\xff", 2},
	{"hyper", num(api.Hyper, 1), "\x00\x00\x00\x00\x00\x00\x00\x01", 2},
	{"hyper", num(api.Hyper, math.MaxInt), "\x7f\xff\xff\xff\xff\xff\xff\xff", 2},
	{"hyper", num(api.Hyper, math.MinInt), "\x80\x00\x00\x00\x00\x00\x00\x00", 2},
	{"uhyper", num(api.Uhyper, math.MaxInt), "\x7f\xff\xff\xff\xff\xff\xff\xff", 2},
	{"uhyper", num(api.Uhyper, -1), "\xff\xff\xff\xff\xff\xff\xff\xff", 2},
	{"float", single(0), "\x00\x00\x00\x00", 2},
	{"float", single(float32(math.Copysign(0, -1))), "\x80\x00\x00\x00", 2},
	{"float", single(1), "\x3f\x80\x00\x00", 2},
	{"float", single(math.SmallestNonzeroFloat32), "\x00\x00\x00\x01", 2},
	{"float", single(-math.MaxFloat32), "\xff\x7f\xff\xff", 2},
	{"float", single(float32(math.Inf(1))), "\x7f\x80\x00\x00", 2},
	{"float", single(float32(math.NaN())), "\x7f\xc0\x00\x00", 2},
	{"double", double(0), "\x00\x00\x00\x00\x00\x00\x00\x00", 2},
	{"double", double(math.Copysign(0, -1)), "\x80\x00\x00\x00\x00\x00\x00\x00", 2},
	{"double", double(-2), "\xc0\x00\x00\x00\x00\x00\x00\x00", 2},
	{"double", double(math.SmallestNonzeroFloat64), "\x00\x00\x00\x00\x00\x00\x00\x01", 2},
	{"double", double(math.Inf(-1)), "\xff\xf0\x00\x00\x00\x00\x00\x00", 2},
	{"double", double(math.NaN()), "\x7f\xf8\x00\x00\x00\x00\x00\x00", 2},
	{"bool", num(api.Bool, 0), "\x00\x00\x00\x00", 2},
	{"bool", num(api.Bool, 1), "\x00\x00\x00\x01", 2},
	{"e", num(api.Enum, 5), "\x00\x00\x00\x05", 2},
	{"e", num(api.Enum, -1), "\xff\xff\xff\xff", 2},
	{"e", num(api.Enum, 0), "\x00\x00\x00\x00", 2},
	{"two", text(api.Fixed, "hi"), "hi\x00\x00", 2},
	{"two", text(api.Fixed, "\x00\xff"), "\x00\xff\x00\x00", 2},
	{"some", text(api.Opaque, ""), "\x00\x00\x00\x00", 2},
	{"some", text(api.Opaque, "abc"), "\x00\x00\x00\x03abc\x00", 2},
	{"some", text(api.Opaque, "abcd"), "\x00\x00\x00\x04abcd", 2},
	{"some", text(api.Opaque, "abcde"), "\x00\x00\x00\x05abcde\x00\x00\x00", 2},
	{"name", text(api.String, ""), "\x00\x00\x00\x00", 2},
	{"name", text(api.String, "\xff\x00\x80"), "\x00\x00\x00\x03\xff\x00\x80\x00", 2},
	{"name", text(api.String, "abcd"), "\x00\x00\x00\x04abcd", 2},
	{"empty", text(api.String, ""), "\x00\x00\x00\x00", 2},
	{"three", items(api.Array, whole(1), whole(-1), whole(3)), "\x00\x00\x00\x01\xff\xff\xff\xff\x00\x00\x00\x03", 2 + 3*2},
	{"pair", items(api.List), "\x00\x00\x00\x00", 2},
	{"pair", items(api.List, num(api.Enum, 5)), "\x00\x00\x00\x01\x00\x00\x00\x05", 2 + 2},
	{"pair", items(api.List, num(api.Enum, 5), num(api.Enum, 0)), "\x00\x00\x00\x02\x00\x00\x00\x05\x00\x00\x00\x00", 2 + 2*2},
	{"none", items(api.List), "\x00\x00\x00\x00", 2},
	{"perhaps", items(api.Maybe), "\x00\x00\x00\x00", 2},
	{"perhaps", items(api.Maybe, whole(7)), "\x00\x00\x00\x01\x00\x00\x00\x07", 2 + 2},
	{"point", parts(whole(1), whole(-1)), both, 2 + 2},
	// A field that is called costs its OpCall beside.
	{"all", parts(single(1), double(-2), text(api.Fixed, "hi"), num(api.Enum, 5), num(api.Bool, 1)), "\x3f\x80\x00\x00\xc0\x00\x00\x00\x00\x00\x00\x00hi\x00\x00\x00\x00\x00\x05\x00\x00\x00\x01", 2 + 3 + 2*3},
	{"plain", parts(whole(-1), num(api.Uint, 1), num(api.Hyper, -1), num(api.Uhyper, 1), single(-2), double(1), num(api.Bool, 1)), "\xff\xff\xff\xff" + "\x00\x00\x00\x01" + "\xff\xff\xff\xff\xff\xff\xff\xff" + "\x00\x00\x00\x00\x00\x00\x00\x01" + "\xc0\x00\x00\x00" + "\x3f\xf0\x00\x00\x00\x00\x00\x00" + "\x00\x00\x00\x01", 2 + 7},
	{"cell", cells(1), "\xff\xff\xff\xff\xff\xff\xff\xff\x00\x00\x00\x00", 2 + 1 + 3},
	{"cell", cells(2), "\x00\x00\x00\x00\x00\x00\x00\x00\x00\x00\x00\x01\xff\xff\xff\xff\xff\xff\xff\xff\x00\x00\x00\x00", 2 * (2 + 1 + 3)},
	// A union's discriminant costs 2.
	{"shape", choice(0, nothing), "\x00\x00\x00\x00", 2 + 2 + 2},
	{"shape", choice(1, parts(whole(2), whole(3))), "\x00\x00\x00\x01\x00\x00\x00\x02\x00\x00\x00\x03", 2 + 2 + 4},
	{"byint", choice(-1, whole(4)), "\xff\xff\xff\xff\x00\x00\x00\x04", 6},
	{"byint", choice(7, whole(4)), "\x00\x00\x00\x07\x00\x00\x00\x04", 6},
	{"byint", choice(2, text(api.String, "a")), "\x00\x00\x00\x02\x00\x00\x00\x01a\x00\x00\x00", 6},
	{"byword", choice(api.MaxWord, num(api.Hyper, 1)), "\xff\xff\xff\xff\x00\x00\x00\x00\x00\x00\x00\x01", 6},
	{"byword", choice(0, nothing), "\x00\x00\x00\x00", 6},
	{"byword", choice(1<<31, num(api.Bool, 1)), "\x80\x00\x00\x00\x00\x00\x00\x01", 6},
	{"byenum", choice(5, nothing), "\x00\x00\x00\x05", 6},
	{"byenum", choice(-1, single(1)), "\xff\xff\xff\xff\x3f\x80\x00\x00", 6},
	{"byenum", choice(0, single(1)), "\x00\x00\x00\x00\x3f\x80\x00\x00", 6},
	{"bymember", choice(5, whole(1)), "\x00\x00\x00\x05\x00\x00\x00\x01", 6},
	{"bymember", choice(-1, nothing), "\xff\xff\xff\xff", 6},
	{"bytrue", choice(1, whole(1)), "\x00\x00\x00\x01\x00\x00\x00\x01", 6},
	{"points", items(api.List, parts(whole(1), whole(2)), parts(whole(3), whole(4))), "\x00\x00\x00\x02\x00\x00\x00\x01\x00\x00\x00\x02\x00\x00\x00\x03\x00\x00\x00\x04", 2 + 2*4},
	{"shapes", items(api.List, choice(0, nothing), choice(0, nothing)), "\x00\x00\x00\x02\x00\x00\x00\x00\x00\x00\x00\x00", 2 + 2*6},
	{"mix", parts(num(api.Enum, 5), choice(7, whole(1)), whole(2)), "\x00\x00\x00\x05\x00\x00\x00\x07\x00\x00\x00\x01\x00\x00\x00\x02", 2 + 3 + 7 + 1},
	{"nest", parts(items(api.List, parts(items(api.List)), parts(items(api.List)))), "\x00\x00\x00\x02\x00\x00\x00\x00\x00\x00\x00\x00", 5 + 2*5},
	{"maygrid", items(api.Maybe, items(api.Array, choice(0, nothing), choice(1, parts(whole(0), whole(0))))), "\x00\x00\x00\x01\x00\x00\x00\x00\x00\x00\x00\x01\x00\x00\x00\x00\x00\x00\x00\x00", 2 + 2 + 6 + 8},
}

// TestBytes is N1 and N2 of values as they should be, with each operation and its fuel.
func TestBytes(t *testing.T) {
	x, c := coded(t, source)
	came := map[int]int{}
	for _, s := range samples {
		at := place(t, x, s.name)
		wantBytes(t, c, at, s.v, s.want, s.cost)
		came[s.v.Kind]++
		// With every fuel there is.
		for fuel := -2; fuel < s.cost; fuel++ {
			wantEncode(t, c, at, s.v, fuel, "", 0, api.ErrEngineFuel)
			wantDecode(t, c, at, s.want, fuel, nothing, 0, api.ErrEngineFuel)
		}
	}
	for kind := range api.Union + 1 {
		if came[kind] == 0 {
			t.Errorf("the kind %d has no sample", kind)
		}
	}
}

// TestNaN: whatever bits the language has of it, it is laid down as the one.
func TestNaN(t *testing.T) {
	_, c := coded(t, source)
	for _, b := range []uint32{0x7fc00000, 0x7f800001, 0x7fffffff, 0xffc00000, 0xff800001} {
		wantBytes(t, c, api.Float, single(math.Float32frombits(b)), "\x7f\xc0\x00\x00", 2)
	}
	for _, b := range []uint64{0x7ff8000000000000, 0x7ff0000000000001, 0xfff8000000000000, 0xffffffffffffffff} {
		wantBytes(t, c, api.Double, double(math.Float64frombits(b)), "\x7f\xf8\x00\x00\x00\x00\x00\x00", 2)
	}
}

// TestRow is N3 and N4: entries one behind the other, with one fuel.
func TestRow(t *testing.T) {
	x, c := coded(t, source)
	var entries []int
	var l []api.Value
	s, cost := "", 0
	for n, one := range samples {
		wantPack(t, c, entries, l, cost, s, 0, api.OK)
		wantPack(t, c, entries, l, cost+n, s, n, api.OK)
		wantUnpack(t, c, entries, s, cost, l, 0, api.OK)
		wantUnpack(t, c, entries, s, cost+n, l, n, api.OK)
		if n > 0 {
			wantPack(t, c, entries, l, cost-1, "", 0, api.ErrEngineFuel)
			wantUnpack(t, c, entries, s, cost-1, nil, 0, api.ErrEngineFuel)
			wantPack(t, c, entries, l[:n-1], plenty, "", 0, api.ErrEngineValue)
			wantPack(t, c, entries[:n-1], l, plenty, "", 0, api.ErrEngineValue)
			wantUnpack(t, c, entries, s+"\x00", plenty, nil, 0, api.ErrXdrMore)
			wantUnpack(t, c, entries, s+"\x00\x00\x00\x00", plenty, nil, 0, api.ErrXdrMore)
		}
		entries, l = append(entries, place(t, x, one.name)), append(l, one.v)
		s, cost = s+one.want, cost+one.cost
	}
}

// TestNoEntries is N3 and N4 of nothing at all.
func TestNoEntries(t *testing.T) {
	_, c := coded(t, source)
	for _, fuel := range []int{0, 1, 7, math.MaxInt} {
		wantPack(t, c, nil, nil, fuel, "", fuel, api.OK)
		wantUnpack(t, c, nil, "", fuel, nil, fuel, api.OK)
	}
	for _, fuel := range []int{-1, math.MinInt} {
		wantPack(t, c, []int{}, []api.Value{}, fuel, "", 0, api.OK)
		wantUnpack(t, c, []int{}, "", fuel, nil, 0, api.OK)
	}
	wantPack(t, c, nil, []api.Value{nothing}, 9, "", 0, api.ErrEngineValue)
	wantPack(t, c, []int{0}, nil, 9, "", 0, api.ErrEngineValue)
	wantUnpack(t, c, nil, "\x00", 9, nil, 0, api.ErrXdrMore)
	wantUnpack(t, c, nil, strings.Repeat("\x00", 1001), 9, nil, 0, api.ErrXdrLong)
	wantPack(t, api.Code{}, nil, nil, 9, "", 0, api.ErrEngineCode)
	wantUnpack(t, api.Code{}, nil, "", 9, nil, 0, api.ErrEngineCode)
}

package value_test

import (
	"math"
	"slices"
	"strings"
	"testing"

	"callbox/api"
	"callbox/value"
)

// has says which things a value of a kind has beside its Kind.
func has(kind int) string {
	switch kind {
	case api.Void:
		return ""
	case api.Float:
		return "Single"
	case api.Double:
		return "Double"
	case api.Fixed, api.Opaque, api.String:
		return "Text"
	case api.Array, api.List, api.Maybe, api.Struct:
		return "Items"
	case api.Union:
		return "Int Items"
	}
	return "Int"
}

// extras are ways to put something into a value that may not be there.
var extras = []struct {
	what string
	put  func(v *api.Value)
}{
	{"Int", func(v *api.Value) { v.Int = 1 }},
	{"Int", func(v *api.Value) { v.Int = -1 }},
	{"Int", func(v *api.Value) { v.Int = math.MinInt }},
	{"Single", func(v *api.Value) { v.Single = 1 }},
	{"Single", func(v *api.Value) { v.Single = float32(math.Copysign(0, -1)) }},
	{"Single", func(v *api.Value) { v.Single = float32(math.NaN()) }},
	{"Double", func(v *api.Value) { v.Double = 1 }},
	{"Double", func(v *api.Value) { v.Double = math.Copysign(0, -1) }},
	{"Double", func(v *api.Value) { v.Double = math.NaN() }},
	{"Text", func(v *api.Value) { v.Text = "x" }},
	{"Text", func(v *api.Value) { v.Text = "\x00" }},
	{"Items", func(v *api.Value) { v.Items = []api.Value{{}} }},
	{"Items", func(v *api.Value) { v.Items = []api.Value{whole(1)} }},
}

// TestTooMuch is A1: of each kind, with each thing that it has not.
func TestTooMuch(t *testing.T) {
	x := compiled(t, source)
	for _, c := range samples {
		at := place(t, x, c.name)
		for _, extra := range extras {
			if !strings.Contains(has(c.v.Kind), extra.what) {
				v := c.v
				extra.put(&v)
				wantNone(t, x, at, v, api.ErrValueType)
			}
		}
	}
}

// TestOtherKind is A1: of each kind, with each Kind that is another one.
func TestOtherKind(t *testing.T) {
	x := compiled(t, source)
	for _, c := range samples {
		at := place(t, x, c.name)
		for _, kind := range []int{-1, 0, 1, 2, 3, 4, 5, 6, 7, 8, 9, 10, 11, 12, 13, 14, 15, 16, 17, math.MaxInt, math.MinInt} {
			if v := c.v; kind != v.Kind {
				v.Kind = kind
				wantNone(t, x, at, v, api.ErrValueType)
			}
		}
	}
}

// TestNoValue is A1: what a kind wants is there, but not so.
func TestNoValue(t *testing.T) {
	x := compiled(t, source)
	one := whole(1)
	for _, c := range []struct {
		name string
		v    api.Value
		want api.Errno
	}{
		{"int", whole(math.MaxInt32 + 1), api.ErrValueType},
		{"int", whole(math.MinInt32 - 1), api.ErrValueType},
		{"int", whole(math.MaxInt), api.ErrValueType},
		{"int", whole(math.MinInt), api.ErrValueType},
		{"int", whole(1 << 32), api.ErrValueType},
		{"uint", num(api.Uint, -1), api.ErrValueType},
		{"uint", num(api.Uint, api.MaxWord+1), api.ErrValueType},
		{"uint", num(api.Uint, math.MinInt), api.ErrValueType},
		{"bool", num(api.Bool, 2), api.ErrValueType},
		{"bool", num(api.Bool, -1), api.ErrValueType},
		{"bool", num(api.Bool, 1<<32), api.ErrValueType},
		{"e", num(api.Enum, 6), api.ErrValueCase},
		{"e", num(api.Enum, 1), api.ErrValueCase},
		{"e", num(api.Enum, math.MaxInt32), api.ErrValueCase},
		{"e", num(api.Enum, math.MinInt32), api.ErrValueCase},
		{"e", num(api.Enum, math.MaxInt32+1), api.ErrValueType},
		{"e", num(api.Enum, math.MinInt32-1), api.ErrValueType},
		{"e", num(api.Enum, 1<<32+5), api.ErrValueType},
		{"e", num(api.Enum, 1<<32-1), api.ErrValueType},
		{"two", text(api.Fixed, ""), api.ErrValueType},
		{"two", text(api.Fixed, "a"), api.ErrValueType},
		{"two", text(api.Fixed, "abc"), api.ErrValueType},
		{"two", text(api.Fixed, "ab\x00\x00"), api.ErrValueType},
		{"some", text(api.Opaque, "abcdef"), api.ErrValueType},
		{"name", text(api.String, "abcde"), api.ErrValueType},
		{"empty", text(api.String, "a"), api.ErrValueType},
		{"three", items(api.Array), api.ErrValueType},
		{"three", items(api.Array, one, one), api.ErrValueType},
		{"three", items(api.Array, one, one, one, one), api.ErrValueType},
		{"three", items(api.Array, one, one, num(api.Uint, 1)), api.ErrValueType},
		{"pair", items(api.List, num(api.Enum, 5), num(api.Enum, 5), num(api.Enum, 5)), api.ErrValueType},
		{"pair", items(api.List, num(api.Enum, 5), num(api.Enum, 4)), api.ErrValueCase},
		{"pair", items(api.List, one), api.ErrValueType},
		{"none", items(api.List, one), api.ErrValueType},
		{"perhaps", items(api.Maybe, one, one), api.ErrValueType},
		{"perhaps", items(api.Maybe, nothing), api.ErrValueType},
		{"perhaps", items(api.Maybe, whole(1<<31)), api.ErrValueType},
		{"point", parts(), api.ErrValueType},
		{"point", parts(one), api.ErrValueType},
		{"point", parts(one, one, one), api.ErrValueType},
		{"point", parts(one, nothing), api.ErrValueType},
		{"point", parts(num(api.Bool, 1), one), api.ErrValueType},
		{"all", parts(double(0), single(0), text(api.Fixed, "hi"), num(api.Enum, 5), num(api.Bool, 1)), api.ErrValueType},
		{"shape", num(api.Union, 0), api.ErrValueType},
		{"shape", num(api.Union, 1), api.ErrValueType},
		{"shape", api.Value{Kind: api.Union, Items: []api.Value{{}, {}}}, api.ErrValueType},
		{"shape", choice(0, one), api.ErrValueType},
		{"shape", choice(0, parts(one, one)), api.ErrValueType},
		{"shape", choice(1, parts(one)), api.ErrValueType},
		{"shape", choice(-1, nothing), api.ErrValueType},
		{"byint", choice(0, one), api.ErrValueCase},
		{"byint", choice(math.MaxInt32, one), api.ErrValueCase},
		{"byint", choice(math.MinInt32, one), api.ErrValueCase},
		{"byint", choice(math.MaxInt32+1, one), api.ErrValueType},
		{"byint", choice(math.MinInt32-1, one), api.ErrValueType},
		{"byint", choice(1<<32-1, one), api.ErrValueType},
		{"byint", choice(2, one), api.ErrValueType},
		{"byint", choice(7, text(api.String, "")), api.ErrValueType},
		{"byword", choice(-1, num(api.Hyper, 1)), api.ErrValueType},
		{"byword", choice(api.MaxWord+1, num(api.Bool, 1)), api.ErrValueType},
		{"byword", choice(0, num(api.Bool, 1)), api.ErrValueType},
		{"byword", choice(1, nothing), api.ErrValueType},
		{"byenum", choice(1, single(1)), api.ErrValueCase},
		{"byenum", choice(1, nothing), api.ErrValueCase},
		{"byenum", choice(math.MaxInt32, single(1)), api.ErrValueCase},
		{"byenum", choice(math.MaxInt32+1, single(1)), api.ErrValueType},
		{"byenum", choice(math.MinInt32-1, single(1)), api.ErrValueType},
		{"byenum", choice(5, single(1)), api.ErrValueType},
		{"bymember", choice(0, nothing), api.ErrValueCase},
		{"bymember", choice(3, nothing), api.ErrValueCase},
		{"bymember", choice(-1, one), api.ErrValueType},
		{"bytrue", choice(0, one), api.ErrValueCase},
		{"bytrue", choice(0, nothing), api.ErrValueCase},
		{"bytrue", choice(2, one), api.ErrValueType},
		{"bytrue", choice(-1, one), api.ErrValueType},
	} {
		wantNone(t, x, place(t, x, c.name), c.v, c.want)
	}
}

// TestWhichFirst is A1: where two things are wrong.
func TestWhichFirst(t *testing.T) {
	x := compiled(t, source)
	good, bad := num(api.Enum, 5), num(api.Enum, 4)
	noType := whole(1 << 40)
	caseOne, right := choice(0, whole(1)), choice(7, whole(1))
	withText := func(v api.Value) api.Value { v.Text = "x"; return v }
	withSingle := func(v api.Value) api.Value { v.Single = 1; return v }
	long := items(api.List, slices.Repeat([]api.Value{whole(1)}, 250)...)
	for i, c := range []struct {
		name string
		v    api.Value
		want api.Errno
	}{
		// Of one thing the type goes ahead of the case.
		{"e", withText(bad), api.ErrValueType},
		{"e", withSingle(bad), api.ErrValueType},
		{"e", api.Value{Kind: api.Enum, Int: 4, Items: []api.Value{{}}}, api.ErrValueType},
		{"e", api.Value{Kind: api.Int, Int: 4}, api.ErrValueType},
		{"byint", withText(caseOne), api.ErrValueType},
		{"byint", withSingle(caseOne), api.ErrValueType},
		{"byint", num(api.Union, 0), api.ErrValueType},
		{"byint", api.Value{Kind: api.Union, Items: []api.Value{whole(1), whole(1)}}, api.ErrValueType},
		{"byint", api.Value{Kind: api.Struct, Items: []api.Value{whole(1)}}, api.ErrValueType},
		{"byenum", api.Value{Kind: api.Union, Int: 1}, api.ErrValueType},
		{"bytrue", api.Value{Kind: api.Union, Int: 0}, api.ErrValueType},
		// A thing goes ahead of its parts.
		{"byint", choice(0, noType), api.ErrValueCase},
		{"byint", choice(0, withText(whole(1))), api.ErrValueCase},
		{"byenum", choice(1, noType), api.ErrValueCase},
		{"pair", withText(items(api.List, bad)), api.ErrValueType},
		{"pair", items(api.List, bad, bad, bad), api.ErrValueType},
		{"mix", withText(parts(bad, right, whole(0))), api.ErrValueType},
		{"mix", parts(bad, right), api.ErrValueType},
		{"mix", parts(bad, right, whole(0), whole(0)), api.ErrValueType},
		// Parts stand in their order.
		{"mix", parts(bad, right, noType), api.ErrValueCase},
		{"mix", parts(noType, caseOne, whole(0)), api.ErrValueType},
		{"mix", parts(good, caseOne, noType), api.ErrValueCase},
		{"mix", parts(good, choice(7, noType), whole(0)), api.ErrValueType},
		{"mix", parts(bad, choice(7, noType), whole(0)), api.ErrValueCase},
		{"mix", parts(good, choice(1<<40, whole(1)), whole(0)), api.ErrValueType},
		{"pair", items(api.List, bad, noType), api.ErrValueCase},
		{"pair", items(api.List, noType, bad), api.ErrValueType},
		// What stands within a part goes ahead of the next part.
		{"points", items(api.List, parts(whole(1), whole(2)), parts(whole(1)), withText(parts(whole(1), whole(2)))), api.ErrValueType},
		// Too long is told behind all else, too deep ahead of it.
		{"ints", withText(long), api.ErrValueType},
		{"ints", items(api.List, append(slices.Clone(long.Items), noType)...), api.ErrValueType},
		{"ints", items(api.List, append([]api.Value{noType}, long.Items...)...), api.ErrValueType},
		{"ints", long, api.ErrValueLong},
		{"cell", withText(cells(33)), api.ErrValueDeep},
		{"e", cells(33), api.ErrValueDeep},
		{"int", api.Value{Kind: api.Int, Int: 1 << 31, Items: []api.Value{cells(32)}}, api.ErrValueDeep},
		{"ints", items(api.List, append(slices.Clone(long.Items), cells(32))...), api.ErrValueDeep},
	} {
		at := place(t, x, c.name)
		if e := value.Fits(x, at, c.v); e != c.want {
			t.Errorf("%d, %s: %d, not %d", i, c.name, e, c.want)
		}
		wantNone(t, x, at, c.v, c.want)
	}
}

// TestLongThenCase: a number that stands for nothing, far behind the 1000th byte.
func TestLongThenCase(t *testing.T) {
	x := compiled(t, "enum e { A = 1 }; struct s { opaque o<>; string c<>; e k<>; };")
	at := place(t, x, "s")
	big := strings.Repeat("x", 100000)
	v := parts(text(api.Opaque, big), text(api.String, big), items(api.List, slices.Repeat([]api.Value{num(api.Enum, 1)}, 5000)...))
	wantNone(t, x, at, v, api.ErrValueLong)
	v.Items[2].Items[4999].Int = 0
	wantNone(t, x, at, v, api.ErrValueCase)
	v.Items[2].Items[4998].Int = 1 << 31
	wantNone(t, x, at, v, api.ErrValueType)
}

// TestTexts is A4: texts that are none.
func TestTexts(t *testing.T) {
	x := compiled(t, source)
	for _, c := range []struct {
		name, s string
		want    api.Errno
	}{
		{"void", "\x00", api.ErrXdrMore},
		{"void", "\x00\x00\x00\x00", api.ErrXdrMore},
		{"int", "", api.ErrXdrShort},
		{"int", "\x00\x00\x00", api.ErrXdrShort},
		{"int", "\x00\x00\x00\x00\x00", api.ErrXdrMore},
		{"uint", "\x00\x00\x00", api.ErrXdrShort},
		{"hyper", "\x00\x00\x00\x00\x00\x00\x00", api.ErrXdrShort},
		{"uhyper", "\x00\x00\x00\x00", api.ErrXdrShort},
		{"float", "\x7f\x80\x00", api.ErrXdrShort},
		{"float", "\x7f\x80\x00\x01", api.ErrXdrReal},
		{"float", "\xff\xc0\x00\x00", api.ErrXdrReal},
		{"float", "\x7f\xc0\x00\x01", api.ErrXdrReal},
		{"double", "\x7f\xf0\x00\x00\x00\x00\x00", api.ErrXdrShort},
		{"double", "\x7f\xf0\x00\x00\x00\x00\x00\x01", api.ErrXdrReal},
		{"double", "\xff\xf8\x00\x00\x00\x00\x00\x00", api.ErrXdrReal},
		{"bool", "\x00\x00\x00\x02", api.ErrXdrBool},
		{"bool", "\x01\x00\x00\x00", api.ErrXdrBool},
		{"bool", "\xff\xff\xff\xff", api.ErrXdrBool},
		{"bool", "\x00\x00\x02", api.ErrXdrShort},
		{"e", "\x00\x00\x00\x06", api.ErrValueCase},
		{"e", "\x00\x00\x00\x06\x00", api.ErrValueCase},
		{"e", "\x80\x00\x00\x00", api.ErrValueCase},
		{"e", "\x00\x00\x00", api.ErrXdrShort},
		{"two", "hi", api.ErrXdrShort},
		{"two", "hi\x00", api.ErrXdrShort},
		{"two", "hi\x00\x01", api.ErrXdrPad},
		{"two", "hi\x01\x00", api.ErrXdrPad},
		{"two", "hi\x00\x00\x00", api.ErrXdrMore},
		{"some", "\x00\x00\x00\x06abcdef\x00\x00", api.ErrXdrLong},
		{"some", "\x00\x00\x00\x05abcd", api.ErrXdrShort},
		{"some", "\x00\x00\x00\x05abcde\x00\x00", api.ErrXdrShort},
		{"some", "\x00\x00\x00\x05abcde\x00\x00\x01", api.ErrXdrPad},
		{"some", "\x00\x00\x00\x01a\x01\x00\x00", api.ErrXdrPad},
		{"some", "\xff\xff\xff\xffa", api.ErrXdrLong},
		{"name", "\x00\x00\x00\x05abcde\x00\x00\x00", api.ErrXdrLong},
		{"name", "\x00\x00\x00\x03abcd", api.ErrXdrPad},
		{"chars", "\xff\xff\xff\xffabcd", api.ErrXdrShort},
		{"bytes", "\xff\xff\xff\xfdabcd", api.ErrXdrShort},
		{"three", "\x00\x00\x00\x01\x00\x00\x00\x02", api.ErrXdrShort},
		{"three", "\x00\x00\x00\x01\x00\x00\x00\x02\x00\x00\x00\x03\x00\x00\x00\x04", api.ErrXdrMore},
		{"pair", "\x00\x00\x00\x03\x00\x00\x00\x05\x00\x00\x00\x05\x00\x00\x00\x05", api.ErrXdrLong},
		{"pair", "\x00\x00\x00\x02\x00\x00\x00\x05", api.ErrXdrShort},
		{"pair", "\x00\x00\x00\x02\x00\x00\x00\x04", api.ErrValueCase},
		{"pair", "\x00\x00\x00\x01\x00\x00\x00\x05\x00\x00\x00\x05", api.ErrXdrMore},
		{"none", "\x00\x00\x00\x01\x00\x00\x00\x00", api.ErrXdrLong},
		{"ints", "\xff\xff\xff\xff\x00\x00\x00\x00", api.ErrXdrShort},
		{"ints", "\xff\xff\xff\xff", api.ErrXdrShort},
		{"perhaps", "\x00\x00\x00\x02\x00\x00\x00\x05", api.ErrXdrBool},
		{"perhaps", "\x00\x00\x00\x01", api.ErrXdrShort},
		{"perhaps", "\x00\x00\x00\x00\x00\x00\x00\x05", api.ErrXdrMore},
		{"point", "\x00\x00\x00\x01", api.ErrXdrShort},
		{"point", "\x00\x00\x00\x01\x00\x00\x00\x01\x00", api.ErrXdrMore},
		{"shape", "", api.ErrXdrShort},
		{"shape", "\x00\x00\x00\x00\x00\x00\x00\x00", api.ErrXdrMore},
		{"byint", "\x00\x00\x00\x00", api.ErrValueCase},
		{"byint", "\x7f\xff\xff\xff\x00", api.ErrValueCase},
		{"byint", "\x00\x00\x00\x07", api.ErrXdrShort},
		{"byint", "\x00\x00\x07", api.ErrXdrShort},
		{"byword", "\x00\x00\x00\x01\x00\x00\x00\x02", api.ErrXdrBool},
		{"byenum", "\x00\x00\x00\x01\x3f\x80\x00\x00", api.ErrValueCase},
		{"byenum", "\xff\xff\xff\xff\x7f\x80\x00\x01", api.ErrXdrReal},
		{"bymember", "\x00\x00\x00\x00", api.ErrValueCase},
		{"bytrue", "\x00\x00\x00\x00", api.ErrValueCase},
		{"bytrue", "\x00\x00\x00\x02", api.ErrXdrBool},
		// The first one is told, going from the front.
		{"mix", "\x00\x00\x00\x04\x00\x00", api.ErrValueCase},
		{"mix", "\x00\x00\x00\x05\x00\x00", api.ErrXdrShort},
		{"mix", "\x00\x00\x00\x05\x00\x00\x00\x01\x00", api.ErrValueCase},
		{"mix", "\x00\x00\x00\x05\x00\x00\x00\x02\x00\x00\x00\x01abcd\x00", api.ErrXdrPad},
		{"all", "\x7f\x80\x00\x01", api.ErrXdrReal},
		{"all", "\x00\x00\x00\x00\x00\x00\x00\x00\x00\x00\x00\x00hi\x00\x01\x00\x00\x00\x09", api.ErrXdrPad},
		{"all", "\x00\x00\x00\x00\x00\x00\x00\x00\x00\x00\x00\x00hi\x00\x00\x00\x00\x00\x09\x00", api.ErrValueCase},
	} {
		wantRefused(t, x, place(t, x, c.name), c.s, c.want)
	}
}

// TestCutAndLonger is A4: of each sample's bytes, with fewer and with more.
func TestCutAndLonger(t *testing.T) {
	x := compiled(t, source)
	for _, c := range samples {
		at := place(t, x, c.name)
		for n := range len(c.want) {
			wantRefused(t, x, at, c.want[:n], api.ErrXdrShort)
		}
		for _, more := range []string{"\x00", "\x00\x00\x00\x00", "\x01", strings.Repeat("\x00", 1000-len(c.want))} {
			wantRefused(t, x, at, c.want+more, api.ErrXdrMore)
		}
		wantRefused(t, x, at, c.want+strings.Repeat("\x00", 1001-len(c.want)), api.ErrValueLong)
	}
}

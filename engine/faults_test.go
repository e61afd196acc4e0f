package engine_test

import (
	"math"
	"slices"
	"strings"
	"testing"

	"callbox/api"
)

// has says which things a value of a kind has beside its Kind.
func has(kind int) string {
	switch kind {
	case api.Void:
		return ""
	case api.Float:
		return "Single"
	case api.Double:
		return "Double"
	case api.Fixed, api.Opaque, api.String:
		return "Text"
	case api.Array, api.List, api.Maybe, api.Struct:
		return "Items"
	case api.Union:
		return "Int Items"
	}
	return "Int"
}

// extras are ways to put something into a value that may not be there.
var extras = []struct {
	what string
	put  func(v *api.Value)
}{
	{"Int", func(v *api.Value) { v.Int = 1 }},
	{"Int", func(v *api.Value) { v.Int = -1 }},
	{"Int", func(v *api.Value) { v.Int = math.MinInt }},
	{"Single", func(v *api.Value) { v.Single = 1 }},
	{"Single", func(v *api.Value) { v.Single = float32(math.Copysign(0, -1)) }},
	{"Single", func(v *api.Value) { v.Single = float32(math.NaN()) }},
	{"Double", func(v *api.Value) { v.Double = 1 }},
	{"Double", func(v *api.Value) { v.Double = math.Copysign(0, -1) }},
	{"Double", func(v *api.Value) { v.Double = math.NaN() }},
	{"Text", func(v *api.Value) { v.Text = "x" }},
	{"Text", func(v *api.Value) { v.Text = "\x00" }},
	{"Items", func(v *api.Value) { v.Items = []api.Value{{}} }},
	{"Items", func(v *api.Value) { v.Items = []api.Value{whole(1)} }},
}

// TestTooMuch: of each operation, with each thing that its values have not.
func TestTooMuch(t *testing.T) {
	x, c := coded(t, source)
	for _, s := range samples {
		at := place(t, x, s.name)
		for _, extra := range extras {
			if !strings.Contains(has(s.v.Kind), extra.what) {
				v := s.v
				extra.put(&v)
				wantNone(t, c, at, v, api.ErrEngineValue, 1)
			}
		}
	}
}

// TestOtherKind: of each operation, with each Kind that is another one.
func TestOtherKind(t *testing.T) {
	x, c := coded(t, source)
	for _, s := range samples {
		at := place(t, x, s.name)
		for _, kind := range []int{-1, 0, 1, 2, 3, 4, 5, 6, 7, 8, 9, 10, 11, 12, 13, 14, 15, 16, 17, 18, math.MaxInt, math.MinInt} {
			if v := s.v; kind != v.Kind {
				v.Kind = kind
				wantNone(t, c, at, v, api.ErrEngineValue, 1)
			}
		}
	}
}

// TestEmptyLists: a list without elements is none, nil or not.
func TestEmptyLists(t *testing.T) {
	x, c := coded(t, source)
	for _, s := range samples {
		if v := s.v; len(v.Items) == 0 {
			v.Items = []api.Value{}
			wantEncode(t, c, place(t, x, s.name), v, s.cost, s.want, 0, api.OK)
		}
	}
}

// TestNoValue: what a kind wants is there, but not so; after so much fuel it comes to light.
func TestNoValue(t *testing.T) {
	x, c := coded(t, source)
	one, member := whole(1), num(api.Enum, 5)
	for _, w := range []struct {
		name  string
		v     api.Value
		want  api.Errno
		spent int
	}{
		{"int", whole(math.MaxInt32 + 1), api.ErrEngineValue, 1},
		{"int", whole(math.MinInt32 - 1), api.ErrEngineValue, 1},
		{"int", whole(math.MaxInt), api.ErrEngineValue, 1},
		{"int", whole(1 << 32), api.ErrEngineValue, 1},
		{"uint", num(api.Uint, -1), api.ErrEngineValue, 1},
		{"uint", num(api.Uint, api.MaxWord+1), api.ErrEngineValue, 1},
		{"uint", num(api.Uint, math.MinInt), api.ErrEngineValue, 1},
		{"bool", num(api.Bool, 2), api.ErrEngineValue, 1},
		{"bool", num(api.Bool, -1), api.ErrEngineValue, 1},
		{"bool", num(api.Bool, 1<<32), api.ErrEngineValue, 1},
		{"e", num(api.Enum, 6), api.ErrEngineCase, 1},
		{"e", num(api.Enum, 1), api.ErrEngineCase, 1},
		{"e", num(api.Enum, math.MaxInt32), api.ErrEngineCase, 1},
		{"e", num(api.Enum, math.MinInt32), api.ErrEngineCase, 1},
		{"e", num(api.Enum, math.MaxInt32+1), api.ErrEngineValue, 1},
		{"e", num(api.Enum, math.MinInt32-1), api.ErrEngineValue, 1},
		{"e", num(api.Enum, 1<<32+5), api.ErrEngineValue, 1},
		{"e", num(api.Enum, 1<<32-1), api.ErrEngineValue, 1},
		{"e", api.Value{Kind: api.Enum, Int: 6, Text: "x"}, api.ErrEngineValue, 1},
		{"two", text(api.Fixed, ""), api.ErrEngineValue, 1},
		{"two", text(api.Fixed, "a"), api.ErrEngineValue, 1},
		{"two", text(api.Fixed, "abc"), api.ErrEngineValue, 1},
		{"two", text(api.Fixed, "ab\x00\x00"), api.ErrEngineValue, 1},
		{"some", text(api.Opaque, "abcdef"), api.ErrEngineValue, 1},
		{"name", text(api.String, "abcde"), api.ErrEngineValue, 1},
		{"name", text(api.String, strings.Repeat("a", 2000)), api.ErrEngineValue, 1},
		{"empty", text(api.String, "a"), api.ErrEngineValue, 1},
		{"three", items(api.Array), api.ErrEngineValue, 1},
		{"three", items(api.Array, one, one), api.ErrEngineValue, 1},
		{"three", items(api.Array, one, one, one, one), api.ErrEngineValue, 1},
		{"three", items(api.Array, num(api.Uint, 1), one, one), api.ErrEngineValue, 2},
		{"three", items(api.Array, one, one, num(api.Uint, 1)), api.ErrEngineValue, 1 + 2 + 2 + 1},
		{"pair", items(api.List, member, member, member), api.ErrEngineValue, 1},
		{"pair", items(api.List, member, num(api.Enum, 4)), api.ErrEngineCase, 1 + 2 + 1},
		{"pair", items(api.List, one), api.ErrEngineValue, 2},
		{"none", items(api.List, one), api.ErrEngineValue, 1},
		{"perhaps", items(api.Maybe, one, one), api.ErrEngineValue, 1},
		{"perhaps", items(api.Maybe, nothing), api.ErrEngineValue, 2},
		{"perhaps", items(api.Maybe, whole(1<<31)), api.ErrEngineValue, 2},
		{"point", parts(), api.ErrEngineValue, 1},
		{"point", parts(one), api.ErrEngineValue, 1},
		{"point", parts(one, one, one), api.ErrEngineValue, 1},
		{"point", parts(one, nothing), api.ErrEngineValue, 3},
		{"point", parts(num(api.Bool, 1), one), api.ErrEngineValue, 2},
		{"all", parts(double(0), single(0), text(api.Fixed, "hi"), member, num(api.Bool, 1)), api.ErrEngineValue, 2},
		{"all", parts(single(0), single(0), text(api.Fixed, "hi"), member, num(api.Bool, 1)), api.ErrEngineValue, 3},
		{"all", parts(single(0), double(0), text(api.Fixed, "h"), member, num(api.Bool, 1)), api.ErrEngineValue, 5},
		{"all", parts(single(0), double(0), text(api.Fixed, "hi"), num(api.Enum, 6), num(api.Bool, 1)), api.ErrEngineCase, 8},
		{"all", parts(single(0), double(0), text(api.Fixed, "hi"), member, num(api.Bool, 2)), api.ErrEngineValue, 10},
		{"points", items(api.List, parts(one, one), parts(one, nothing)), api.ErrEngineValue, 1 + 4 + 3},
		{"mix", parts(member, choice(7, one), num(api.Bool, 1)), api.ErrEngineValue, 1 + 3 + 7 + 1},
	} {
		wantNone(t, c, place(t, x, w.name), w.v, w.want, w.spent)
	}
}

// TestNoUnion: the same of unions: themselves, their discriminants, their arms.
func TestNoUnion(t *testing.T) {
	x, c := coded(t, source)
	one, float := whole(1), single(1)
	for _, w := range []struct {
		name  string
		v     api.Value
		want  api.Errno
		spent int
	}{
		// The union itself: OpUnion finds it.
		{"shape", num(api.Union, 0), api.ErrEngineValue, 1},
		{"shape", num(api.Union, 2), api.ErrEngineValue, 1},
		{"shape", api.Value{Kind: api.Union, Items: []api.Value{{}, {}}}, api.ErrEngineValue, 1},
		{"byint", api.Value{Kind: api.Union, Int: 99, Text: "x", Items: []api.Value{one}}, api.ErrEngineValue, 1},
		// The discriminant: its operation does.
		{"shape", choice(2, nothing), api.ErrEngineValue, 2},
		{"shape", choice(-1, nothing), api.ErrEngineValue, 2},
		{"byint", choice(math.MaxInt32+1, one), api.ErrEngineValue, 2},
		{"byint", choice(math.MinInt32-1, one), api.ErrEngineValue, 2},
		{"byint", choice(1<<32-1, one), api.ErrEngineValue, 2},
		{"byword", choice(-1, num(api.Hyper, 1)), api.ErrEngineValue, 2},
		{"byword", choice(api.MaxWord+1, num(api.Bool, 1)), api.ErrEngineValue, 2},
		{"byenum", choice(math.MaxInt32+1, float), api.ErrEngineValue, 2},
		{"byenum", choice(1, float), api.ErrEngineCase, 2},
		{"byenum", choice(6, nothing), api.ErrEngineCase, 2},
		{"bymember", choice(1, one), api.ErrEngineCase, 2},
		{"bytrue", choice(2, one), api.ErrEngineValue, 2},
		// No arm: once the discriminant has ended.
		{"byint", choice(0, one), api.ErrEngineCase, 3},
		{"byint", choice(math.MaxInt32, one), api.ErrEngineCase, 3},
		{"byint", choice(math.MinInt32, one), api.ErrEngineCase, 3},
		{"byint", choice(0, text(99, "x")), api.ErrEngineCase, 3},
		{"bymember", choice(0, one), api.ErrEngineCase, 3},
		{"bytrue", choice(0, one), api.ErrEngineCase, 3},
		{"bytrue", choice(0, nothing), api.ErrEngineCase, 3},
		// The arm's value.
		{"shape", choice(0, one), api.ErrEngineValue, 4},
		{"shape", choice(0, parts(one, one)), api.ErrEngineValue, 4},
		{"shape", choice(1, nothing), api.ErrEngineValue, 4},
		{"shape", choice(1, parts(one)), api.ErrEngineValue, 4},
		{"shape", choice(1, parts(one, nothing)), api.ErrEngineValue, 6},
		{"byint", choice(2, one), api.ErrEngineValue, 4},
		{"byint", choice(7, text(api.String, "")), api.ErrEngineValue, 4},
		{"byword", choice(0, num(api.Bool, 1)), api.ErrEngineValue, 4},
		{"byword", choice(1, nothing), api.ErrEngineValue, 4},
		{"byword", choice(api.MaxWord, num(api.Bool, 1)), api.ErrEngineValue, 4},
		{"byenum", choice(5, float), api.ErrEngineValue, 4},
		{"byenum", choice(0, nothing), api.ErrEngineValue, 4},
		{"bymember", choice(-1, one), api.ErrEngineValue, 4},
		// An OpCall around it is done ahead.
		{"mix", parts(num(api.Enum, 5), num(api.Union, 7), one), api.ErrEngineValue, 1 + 3 + 2},
		{"mix", parts(num(api.Enum, 5), choice(1<<31, one), one), api.ErrEngineValue, 1 + 3 + 3},
		{"mix", parts(num(api.Enum, 5), choice(3, one), one), api.ErrEngineCase, 1 + 3 + 4},
		{"mix", parts(num(api.Enum, 5), choice(7, nothing), one), api.ErrEngineValue, 1 + 3 + 5},
	} {
		wantNone(t, c, place(t, x, w.name), w.v, w.want, w.spent)
	}
}

// TestFirstOfTwo: of two things that are wrong with a value the one is told that comes first.
func TestFirstOfTwo(t *testing.T) {
	x, c := coded(t, source)
	pair, mix, points := place(t, x, "pair"), place(t, x, "mix"), place(t, x, "points")
	none, other, right := num(api.Enum, 4), num(api.Int, 5), num(api.Enum, 5)
	wantNone(t, c, pair, items(api.List, none, other), api.ErrEngineCase, 2)
	wantNone(t, c, pair, items(api.List, other, none), api.ErrEngineValue, 2)
	wantNone(t, c, pair, items(api.List, none, none, none), api.ErrEngineValue, 1)
	wantNone(t, c, pair, api.Value{Kind: api.List, Int: 1, Items: []api.Value{none}}, api.ErrEngineValue, 1)
	wantNone(t, c, mix, parts(none, choice(9, nothing), nothing), api.ErrEngineCase, 3)
	wantNone(t, c, mix, parts(right, choice(9, nothing), nothing), api.ErrEngineCase, 1+3+4)
	wantNone(t, c, mix, parts(right, choice(2, nothing), nothing), api.ErrEngineValue, 1+3+5)
	wantNone(t, c, mix, parts(other, choice(9, nothing), nothing), api.ErrEngineValue, 3)
	wantNone(t, c, mix, parts(none, choice(9, nothing)), api.ErrEngineValue, 1)
	wantNone(t, c, points, items(api.List, parts(whole(1<<31), nothing), nothing, nothing, nothing), api.ErrEngineValue, 1)
	// What does not fit in behind 1000 bytes stands against what is wrong with a part: the one ahead is told.
	ints := place(t, x, "ints")
	long := slices.Repeat([]api.Value{whole(1)}, 260)
	wantNone(t, c, ints, items(api.List, long...), api.ErrXdrLong, 1+249*2+1)
	long[249] = nothing
	wantNone(t, c, ints, items(api.List, long...), api.ErrEngineValue, 1+249*2+1)
	long[249], long[250] = whole(1), nothing
	wantNone(t, c, ints, items(api.List, long...), api.ErrXdrLong, 1+249*2+1)
	long[248] = nothing
	wantNone(t, c, ints, items(api.List, long...), api.ErrEngineValue, 1+248*2+1)
}

// TestNoText: bytes that are cut, longer, or wrong in one place.
func TestNoText(t *testing.T) {
	x, c := coded(t, source)
	one := "\x00\x00\x00\x01"
	for _, w := range []struct {
		name, s string
		want    api.Errno
		spent   int
	}{
		{"void", "\x00", api.ErrXdrMore, 2},
		{"void", "\x00\x00\x00\x00", api.ErrXdrMore, 2},
		{"int", "", api.ErrXdrShort, 1},
		{"int", "\x00\x00\x00", api.ErrXdrShort, 1},
		{"int", "\x00\x00\x00\x00\x00", api.ErrXdrMore, 2},
		{"uint", "\xff\xff\xff", api.ErrXdrShort, 1},
		{"hyper", one + "\x00\x00\x00", api.ErrXdrShort, 1},
		{"uhyper", one, api.ErrXdrShort, 1},
		{"float", "\x3f\x80\x00", api.ErrXdrShort, 1},
		{"float", "\x7f\x80\x00\x01", api.ErrXdrReal, 1},
		{"float", "\xff\xc0\x00\x00", api.ErrXdrReal, 1},
		{"double", one + "\x00\x00\x00", api.ErrXdrShort, 1},
		{"double", "\x7f\xf0\x00\x00\x00\x00\x00\x01", api.ErrXdrReal, 1},
		{"bool", "\x00\x00\x00", api.ErrXdrShort, 1},
		{"bool", "\x00\x00\x00\x02", api.ErrXdrBool, 1},
		{"bool", "\x01\x00\x00\x00", api.ErrXdrBool, 1},
		{"e", "\x00\x00\x00", api.ErrXdrShort, 1},
		{"e", "", api.ErrXdrShort, 1},
		{"e", "\x00\x00\x00\x06", api.ErrEngineCase, 1},
		{"e", "\x80\x00\x00\x00", api.ErrEngineCase, 1},
		{"e", "\x00\x00\x00\x06\x00", api.ErrEngineCase, 1},
		{"two", "hi\x00", api.ErrXdrShort, 1},
		{"two", "hi\x00\x01", api.ErrXdrPad, 1},
		{"two", "hi\x01\x00", api.ErrXdrPad, 1},
		{"two", "hi\x00\x00\x00", api.ErrXdrMore, 2},
		{"some", "\x00\x00\x00", api.ErrXdrShort, 1},
		{"some", "\x00\x00\x00\x06abcdef\x00\x00", api.ErrXdrLong, 1},
		{"some", "\xff\xff\xff\xff", api.ErrXdrLong, 1},
		{"some", "\x00\x00\x00\x05abcd", api.ErrXdrShort, 1},
		{"some", "\x00\x00\x00\x05abcde\x00\x00", api.ErrXdrShort, 1},
		{"some", "\x00\x00\x00\x05abcde\x00\x00\x01", api.ErrXdrPad, 1},
		{"some", "\x00\x00\x00\x01a\x00\x00\x00\x00", api.ErrXdrMore, 2},
		{"name", "\x00\x00\x00\x05abcde\x00\x00\x00", api.ErrXdrLong, 1},
		{"name", "\x00\x00\x00\x03abcd", api.ErrXdrPad, 1},
		{"empty", one + "a\x00\x00\x00", api.ErrXdrLong, 1},
		{"chars", "\xff\xff\xff\xff", api.ErrXdrShort, 1},
		{"three", "", api.ErrXdrShort, 2},
		{"three", one + one + "\x00\x00\x00", api.ErrXdrShort, 1 + 2 + 2 + 1},
		{"three", one + one + one + one, api.ErrXdrMore, 2 + 3*2},
		{"pair", "\x00\x00\x00", api.ErrXdrShort, 1},
		{"pair", "\x00\x00\x00\x03", api.ErrXdrLong, 1},
		{"pair", "\x00\x00\x00\x02\x00\x00\x00\x05", api.ErrXdrShort, 1 + 2 + 1},
		{"pair", "\x00\x00\x00\x02\x00\x00\x00\x05\x00\x00\x00\x06", api.ErrEngineCase, 1 + 2 + 1},
		{"pair", "\x00\x00\x00\x02\x00\x00\x00\x06\x00", api.ErrEngineCase, 2},
		{"none", one + one, api.ErrXdrLong, 1},
		{"ints", "\xff\xff\xff\xff", api.ErrXdrShort, 2},
		{"ints", "\xff\xff\xff\xff" + one, api.ErrXdrShort, 1 + 2 + 1},
		{"perhaps", "\x00\x00\x00", api.ErrXdrShort, 1},
		{"perhaps", "\x00\x00\x00\x02" + one, api.ErrXdrBool, 1},
		{"perhaps", one, api.ErrXdrShort, 2},
		{"perhaps", "\x00\x00\x00\x00" + one, api.ErrXdrMore, 2},
		{"perhaps", one + one + one, api.ErrXdrMore, 4},
		{"point", "", api.ErrXdrShort, 2},
		{"point", one, api.ErrXdrShort, 3},
		{"point", one + one + "\x00", api.ErrXdrMore, 4},
		{"shape", "", api.ErrXdrShort, 2},
		{"shape", "\x00\x00\x00\x02", api.ErrXdrBool, 2},
		{"shape", one + one + "\x00\x00", api.ErrXdrShort, 6},
		{"shape", "\x00\x00\x00\x00\x00", api.ErrXdrMore, 6},
		{"byint", "\x00\x00\x00", api.ErrXdrShort, 2},
		{"byint", "\x00\x00\x00\x00", api.ErrEngineCase, 3},
		{"byint", "\x00\x00\x00\x00\x00", api.ErrEngineCase, 3},
		{"byint", "\x00\x00\x00\x07", api.ErrXdrShort, 4},
		{"byint", "\x00\x00\x00\x02\x00\x00\x00\x01abc\x00", api.ErrXdrPad, 4},
		{"byword", "\x00\x00\x00\x07\x00\x00\x00\x02", api.ErrXdrBool, 4},
		{"byenum", "\x00\x00\x00\x06\x00\x00\x00\x00", api.ErrEngineCase, 2},
		{"byenum", "\xff\xff\xff\xff\xff\xff\xff\xff", api.ErrXdrReal, 4},
		{"bymember", "\x00\x00\x00\x00", api.ErrEngineCase, 3},
		{"bymember", "\x00\x00\x00\x01", api.ErrEngineCase, 2},
		{"bytrue", "\x00\x00\x00\x00\x00\x00\x00\x01", api.ErrEngineCase, 3},
		{"mix", "\x00\x00\x00\x05\x00\x00\x00\x07" + one, api.ErrXdrShort, 1 + 3 + 7 + 1},
		{"mix", "\x00\x00\x00\x05\x00\x00\x00\x08", api.ErrEngineCase, 1 + 3 + 4},
	} {
		wantRefused(t, c, place(t, x, w.name), w.s, w.want, w.spent)
	}
}

// TestCut: each sample's bytes, cut at each place, or with more behind them.
func TestCut(t *testing.T) {
	x, c := coded(t, source)
	for _, s := range samples {
		at := place(t, x, s.name)
		for n := range len(s.want) {
			wantDecode(t, c, at, s.want[:n], plenty, nothing, 0, api.ErrXdrShort)
		}
		for _, more := range []string{"\x00", "\x00\x00\x00\x00", "\xff\xff\xff\xff\xff"} {
			wantRefused(t, c, at, s.want+more, api.ErrXdrMore, s.cost)
		}
	}
}

// TestRowFirst is N3 and N4: what is wrong first, in a row of entries.
func TestRowFirst(t *testing.T) {
	x, c := coded(t, source)
	e := place(t, x, "e")
	row := []int{1, e, 7}
	one, member, yes := whole(1), num(api.Enum, 5), num(api.Bool, 1)
	right := "\x00\x00\x00\x01\x00\x00\x00\x05\x00\x00\x00\x01"
	wantPack(t, c, row, []api.Value{one, member, yes}, 6, right, 0, api.OK)
	for _, w := range []struct {
		l     []api.Value
		want  api.Errno
		spent int
	}{
		{[]api.Value{nothing, num(api.Enum, 6), nothing}, api.ErrEngineValue, 1},
		{[]api.Value{one, num(api.Enum, 6), nothing}, api.ErrEngineCase, 3},
		{[]api.Value{one, nothing, nothing}, api.ErrEngineValue, 3},
		{[]api.Value{one, member, num(api.Bool, 2)}, api.ErrEngineValue, 5},
	} {
		wantPack(t, c, row, w.l, w.spent, "", 0, w.want)
		wantPack(t, c, row, w.l, plenty, "", 0, w.want)
		wantPack(t, c, row, w.l, w.spent-1, "", 0, api.ErrEngineFuel)
	}
	for _, w := range []struct {
		s     string
		want  api.Errno
		spent int
	}{
		{"", api.ErrXdrShort, 1},
		{right[:4] + "\x00\x00\x00\x06\x00", api.ErrEngineCase, 3},
		{right[:7], api.ErrXdrShort, 3},
		{right[:8], api.ErrXdrShort, 5},
		{right[:11] + "\x02", api.ErrXdrBool, 5},
		{right + "\x00", api.ErrXdrMore, 6},
	} {
		wantUnpack(t, c, row, w.s, w.spent, nil, 0, w.want)
		wantUnpack(t, c, row, w.s, plenty, nil, 0, w.want)
		wantUnpack(t, c, row, w.s, w.spent-1, nil, 0, api.ErrEngineFuel)
	}
	// That there are not as many values goes ahead of what they are; that an entry is none goes ahead of that.
	wantPack(t, c, row, []api.Value{one, num(api.Enum, 6)}, plenty, "", 0, api.ErrEngineValue)
	wantPack(t, c, row, []api.Value{one, num(api.Enum, 6)}, 0, "", 0, api.ErrEngineValue)
	wantPack(t, c, row, []api.Value{one, num(api.Enum, 6), yes, yes}, plenty, "", 0, api.ErrEngineValue)
	wantPack(t, c, []int{1, len(c.Entries)}, []api.Value{one}, plenty, "", 0, api.ErrEngineCode)
	wantPack(t, c, []int{1, -1}, []api.Value{one, one}, plenty, "", 0, api.ErrEngineCode)
	wantPack(t, c, []int{-1, 1}, []api.Value{one, one}, 0, "", 0, api.ErrEngineCode)
	wantUnpack(t, c, []int{1, len(c.Entries)}, "", plenty, nil, 0, api.ErrEngineCode)
	wantUnpack(t, c, []int{-1}, strings.Repeat("\x00", 1001), plenty, nil, 0, api.ErrEngineCode)
}

package engine_test

import (
	"math"
	"slices"
	"strings"
	"testing"

	"callbox/api"
	"callbox/codec"
	"callbox/engine"
)

// TestLong is N1 and N3 at 1000 bytes.
func TestLong(t *testing.T) {
	x, c := coded(t, source+"typedef hyper most[125]; typedef opaque whole[1000]; typedef opaque whole2[997];")
	ones := func(n int) api.Value { return items(api.List, slices.Repeat([]api.Value{whole(1)}, n)...) }
	ints := place(t, x, "ints")
	wantBytes(t, c, ints, ones(249), "\x00\x00\x00\xf9"+strings.Repeat("\x00\x00\x00\x01", 249), 2+249*2)
	wantNone(t, c, ints, ones(250), api.ErrXdrLong, 1+249*2+1)
	wantNone(t, c, ints, ones(1000000), api.ErrXdrLong, 1+249*2+1)
	for _, w := range []struct {
		name string
		kind int
	}{{"bytes", api.Opaque}, {"chars", api.String}} {
		at := place(t, x, w.name)
		wantBytes(t, c, at, text(w.kind, strings.Repeat("x", 996)), "\x00\x00\x03\xe4"+strings.Repeat("x", 996), 2)
		wantBytes(t, c, at, text(w.kind, strings.Repeat("x", 993)), "\x00\x00\x03\xe1"+strings.Repeat("x", 993)+"\x00\x00\x00", 2)
		wantNone(t, c, at, text(w.kind, strings.Repeat("x", 997)), api.ErrXdrLong, 1)
		wantNone(t, c, at, text(w.kind, strings.Repeat("x", 1<<20)), api.ErrXdrLong, 1)
	}
	wantBytes(t, c, place(t, x, "most"), items(api.Array, slices.Repeat([]api.Value{num(api.Hyper, -1)}, 125)...), strings.Repeat("\xff", 1000), 2+125*2)
	wantBytes(t, c, place(t, x, "whole"), text(api.Fixed, strings.Repeat("y", 1000)), strings.Repeat("y", 1000), 2)
	wantBytes(t, c, place(t, x, "whole2"), text(api.Fixed, strings.Repeat("y", 997)), strings.Repeat("y", 997)+"\x00\x00\x00", 2)
	// All of a row have one Writer.
	full := strings.Repeat("y", 1000)
	fixed := []int{place(t, x, "whole"), api.Void, api.Int}
	wantPack(t, c, fixed[:2], []api.Value{text(api.Fixed, full), nothing}, 4, full, 0, api.OK)
	wantPack(t, c, fixed, []api.Value{text(api.Fixed, full), nothing, whole(1)}, 5, "", 0, api.ErrXdrLong)
	wantPack(t, c, fixed, []api.Value{text(api.Fixed, full), nothing, whole(1)}, 4, "", 0, api.ErrEngineFuel)
	wantPack(t, c, fixed, []api.Value{text(api.Fixed, full), nothing, whole(1 << 31)}, 5, "", 0, api.ErrEngineValue)
	wantUnpack(t, c, fixed[:2], full, 4, []api.Value{text(api.Fixed, full), nothing}, 0, api.OK)
	wantUnpack(t, c, fixed, full, 5, nil, 0, api.ErrXdrShort)
}

// TestLongAnywhere: each operation that lays bytes down may be the one for which there is no room, and ends all then.
func TestLongAnywhere(t *testing.T) {
	x, c := coded(t, source+"typedef opaque ahead[1000]; typedef opaque four[996];")
	bytesAhead := func(n int) (int, api.Value) {
		return place(t, x, map[int]string{1000: "ahead", 996: "four"}[n]), text(api.Fixed, strings.Repeat("y", n))
	}
	for _, s := range samples {
		at := place(t, x, s.name)
		for _, n := range []int{996, 1000} {
			first, v := bytesAhead(n)
			row, l := []int{first, at}, []api.Value{v, s.v}
			if n+len(s.want) <= 1000 {
				wantPack(t, c, row, l, 2+s.cost, v.Text+s.want, 0, api.OK)
				continue
			}
			// As soon as the Writer refuses something, nothing else is wrong.
			least := 0
			for {
				_, _, e := engine.Pack(c, row, l, least)
				if e == api.ErrXdrLong {
					break
				}
				if e != api.ErrEngineFuel || least > s.cost+2 {
					t.Fatalf("%s behind %d: %d", s.name, n, e)
				}
				least++
			}
			for _, fuel := range []int{least, least + 1, plenty} {
				wantPack(t, c, row, l, fuel, "", 0, api.ErrXdrLong)
			}
		}
	}
	// What is refused where there is no room: the count ahead of a part that is none, a part ahead of the next one.
	first, v := bytesAhead(1000)
	for _, w := range []struct {
		name string
		v    api.Value
	}{
		{"perhaps", items(api.Maybe, nothing)}, {"pair", items(api.List, nothing)}, {"point", parts(whole(1), nothing)},
		{"three", items(api.Array, whole(1), nothing, nothing)}, {"byint", choice(9, nothing)}, {"byint", choice(7, nothing)},
		{"shape", choice(0, whole(1))}, {"mix", parts(num(api.Enum, 5), nothing, nothing)},
	} {
		wantPack(t, c, []int{first, place(t, x, w.name)}, []api.Value{v, w.v}, plenty, "", 0, api.ErrXdrLong)
	}
}

// TestLongTexts is N2 and N4: that bytes are too many goes ahead of all that is wrong in them, and of the fuel.
func TestLongTexts(t *testing.T) {
	x, c := coded(t, source)
	for _, name := range []string{"void", "int", "bool", "e", "chars", "ints", "cell", "shape", "point"} {
		at := place(t, x, name)
		for _, fill := range []string{"\x00", "\xff", "\x01"} {
			for _, n := range []int{1001, 1004, 1 << 20} {
				s := strings.Repeat(fill, n)
				for _, fuel := range []int{-1, 0, 1, plenty} {
					wantDecode(t, c, at, s, fuel, nothing, 0, api.ErrXdrLong)
					wantUnpack(t, c, []int{at, at}, s, fuel, nil, 0, api.ErrXdrLong)
				}
			}
			_, _, e := engine.Decode(c, at, strings.Repeat(fill, 1000), 0)
			if e != api.ErrEngineFuel {
				t.Errorf("%s: 1000 bytes: %d", name, e)
			}
		}
	}
	wantRefused(t, c, api.Void, strings.Repeat("\x00", 1000), api.ErrXdrMore, 2)
}

// TestDeep is N1 and N2 at depths of 64 and 65, by entries that are run and by the fields of a struct.
func TestDeep(t *testing.T) {
	x, c := coded(t, source+`
		struct odd { cell c; };
		union tree switch (int d) { case 0: void; case 1: tree *t; };
		struct around { tree t; };
		typedef cell row[1];
		typedef cell few<2>;
		typedef cell *may;`)
	one, none := "\x00\x00\x00\x01", "\x00\x00\x00\x00"
	link, last := none+none+one, strings.Repeat("\xff", 8)+none
	// 32 cells are 64 deep: each costs OpStruct, OpUhyper, OpCall, OpMaybe and twice OpEnd.
	cell := place(t, x, "cell")
	wantBytes(t, c, cell, cells(32), strings.Repeat(link, 31)+last, 32*6)
	// Of 33 the last one's OpStruct stands at 65: its entry is not run, so that costs nothing.
	wantNone(t, c, cell, cells(33), api.ErrEngineDeep, 32*4)
	wantRefused(t, c, cell, strings.Repeat(link, 32)+last, api.ErrEngineDeep, 32*4)
	// With one thing around them it is the number of the 32nd that stands at 65: behind its OpStruct.
	for _, w := range []struct {
		name, ahead string
		v           api.Value
		cost        int
	}{
		{"odd", "", parts(cells(32)), 2},
		{"row", "", items(api.Array, cells(32)), 1},
		{"few", one, items(api.List, cells(32)), 1},
		{"may", one, items(api.Maybe, cells(32)), 1},
	} {
		at := place(t, x, w.name)
		wantNone(t, c, at, w.v, api.ErrEngineDeep, w.cost+31*4+1)
		wantRefused(t, c, at, w.ahead+strings.Repeat(link, 31)+last, api.ErrEngineDeep, w.cost+31*4+1)
		w.v.Items[0] = cells(31)
		wantBytes(t, c, at, w.v, w.ahead+strings.Repeat(link, 30)+last, w.cost+1+31*6)
	}
	// A union's discriminant stands where the union does, its arm one deeper, though a Void has no bytes.
	tree, around := place(t, x, "tree"), place(t, x, "around")
	trees := func(n int) api.Value {
		v := choice(0, nothing)
		for range n {
			v = choice(1, items(api.Maybe, v))
		}
		return v
	}
	wantBytes(t, c, tree, trees(31), strings.Repeat(one+one, 31)+none, 31*6+6)
	wantNone(t, c, tree, trees(32), api.ErrEngineDeep, 32*4)
	wantRefused(t, c, tree, strings.Repeat(one+one, 32)+none, api.ErrEngineDeep, 32*4)
	wantNone(t, c, around, parts(trees(31)), api.ErrEngineDeep, 2+31*4+3)
	wantRefused(t, c, around, strings.Repeat(one+one, 31)+none, api.ErrEngineDeep, 2+31*4+3)
	// All of a row begin at the depth 1.
	wantPack(t, c, []int{cell, cell}, []api.Value{cells(32), cells(32)}, plenty, strings.Repeat(strings.Repeat(link, 31)+last, 2), plenty-2*32*6, api.OK)
	wantPack(t, c, []int{cell, cell}, []api.Value{cells(32), cells(33)}, plenty, "", 0, api.ErrEngineDeep)
}

// TestDeepFirst: what stands too deep is wrong where it would begin: behind all that stands ahead, and ahead of what it is.
func TestDeepFirst(t *testing.T) {
	x, c := coded(t, source+`
		union tree switch (int d) { case 0: void; case 1: tree *t; };
		struct around { tree t; };
		struct few { few kids<1>; };
		struct row { row *next; int last[1]; };
		struct rows { row r; };`)
	one, none := "\x00\x00\x00\x01", "\x00\x00\x00\x00"
	link := none + none + one
	// The 32nd cell's Maybe stands at 64.
	cell, ahead := place(t, x, "cell"), strings.Repeat(link, 31)
	wantRefused(t, c, cell, ahead+link[:7], api.ErrXdrShort, 31*4+2)
	wantRefused(t, c, cell, ahead+link[:11], api.ErrXdrShort, 32*4)
	wantRefused(t, c, cell, ahead+link[:11]+"\x02", api.ErrXdrBool, 32*4)
	wantRefused(t, c, cell, ahead+link, api.ErrEngineDeep, 32*4)
	wantRefused(t, c, cell, ahead+link+"\xff", api.ErrEngineDeep, 32*4)
	wantRefused(t, c, cell, ahead+link[:8]+none+"\xff", api.ErrXdrMore, 32*6)
	// The 32nd of few has its list at 64.
	few, ahead := place(t, x, "few"), strings.Repeat(one, 31)
	wantRefused(t, c, few, ahead, api.ErrXdrShort, 32*3)
	wantRefused(t, c, few, ahead+"\x00\x00\x00\x02", api.ErrXdrLong, 32*3)
	wantRefused(t, c, few, ahead+one, api.ErrEngineDeep, 32*3)
	wantRefused(t, c, place(t, x, "nest"), ahead+"\xff\xff\xff\xff", api.ErrEngineDeep, 32*3)
	// A tree within around stands at 64: its arm would be the 65th, whether there is one is asked ahead.
	around, ahead := place(t, x, "around"), strings.Repeat(one+one, 31)
	wantRefused(t, c, around, ahead, api.ErrXdrShort, 2+31*4+2)
	wantRefused(t, c, around, ahead+"\x00\x00\x00\x02", api.ErrEngineCase, 2+31*4+3)
	wantRefused(t, c, around, ahead+none, api.ErrEngineDeep, 2+31*4+3)
	wantRefused(t, c, around, ahead+one, api.ErrEngineDeep, 2+31*4+3)
	// An array at 64: its first Item is too deep at once; a field of a struct at 64 likewise.
	rows, ahead := place(t, x, "rows"), strings.Repeat(one, 31)
	wantRefused(t, c, rows, ahead, api.ErrEngineDeep, 2+31*3+1)
	wantRefused(t, c, place(t, x, "row"), ahead, api.ErrXdrShort, 32*3)
	wantRefused(t, c, place(t, x, "row"), ahead+none, api.ErrEngineDeep, 32*3+1+2)
	// Forward, what a thing at 64 is itself is asked ahead of its parts, which are not looked at.
	deepest := func(v api.Value) api.Value {
		for range 31 {
			v = parts(num(api.Uhyper, 0), items(api.Maybe, v))
		}
		return v
	}
	wantNone(t, c, cell, deepest(parts(num(api.Uhyper, 0), items(api.Maybe, nothing))), api.ErrEngineDeep, 32*4)
	wantNone(t, c, cell, deepest(parts(num(api.Uhyper, 0), items(api.Maybe, nothing, nothing))), api.ErrEngineValue, 32*4)
	wantNone(t, c, cell, deepest(parts(nothing, items(api.Maybe, nothing))), api.ErrEngineValue, 31*4+2)
	wantNone(t, c, cell, deepest(parts(num(api.Uhyper, 0))), api.ErrEngineValue, 31*4+1)
	may := func(v api.Value) api.Value { return parts(choice(1, items(api.Maybe, v))) }
	for range 30 {
		inner := may
		may = func(v api.Value) api.Value { return inner(choice(1, items(api.Maybe, v))) }
	}
	wantNone(t, c, around, may(choice(0, whole(1))), api.ErrEngineDeep, 2+31*4+3)
	wantNone(t, c, around, may(choice(2, whole(1))), api.ErrEngineCase, 2+31*4+3)
	wantNone(t, c, around, may(choice(1<<31, whole(1))), api.ErrEngineValue, 2+31*4+2)
	wantNone(t, c, around, may(num(api.Union, 0)), api.ErrEngineValue, 2+31*4+1)
}

// TestGreat: what is nested and spread as far as the bound lets it be.
func TestGreat(t *testing.T) {
	x, c := coded(t, source)
	deep := whole(1)
	for range 1<<16 - 1 {
		deep = parts(deep)
	}
	wide := items(api.List, slices.Repeat([]api.Value{whole(1)}, 1<<20)...)
	for at := range x.Types {
		if _, _, e := engine.Encode(c, at, deep, plenty); e != api.ErrEngineValue {
			t.Errorf("deep by %d: %d", at, e)
		}
		want := api.ErrEngineValue
		if at == place(t, x, "ints") {
			want = api.ErrXdrLong
		}
		if _, _, e := engine.Encode(c, at, wide, plenty); e != want {
			t.Errorf("wide by %d: %d, not %d", at, e, want)
		}
	}
	row := slices.Repeat([]int{api.Void}, 1<<16)
	l := make([]api.Value, 1<<16)
	wantPack(t, c, row, l, 1<<17+3, "", 3, api.OK)
	wantPack(t, c, row, l, 1<<17-1, "", 0, api.ErrEngineFuel)
	wantUnpack(t, c, row, "", 1<<17+3, l, 3, api.OK)
	wantUnpack(t, c, row, "", 1<<17-1, nil, 0, api.ErrEngineFuel)
	wantUnpack(t, c, slices.Repeat([]int{api.Int}, 1<<16), "", plenty, nil, 0, api.ErrXdrShort)
}

// TestManyTypes: a code may have 400 entries, and each of them may be run.
func TestManyTypes(t *testing.T) {
	var c api.Code
	for code := range 8 {
		c.Entries = append(c.Entries, 2*code)
		c.Ops = append(c.Ops, api.Op{Code: api.OpVoid + code}, api.Op{})
	}
	for n := 8; n < 400; n++ {
		c.Entries = append(c.Entries, 2*n)
		c.Ops = append(c.Ops, api.Op{Code: api.OpFixed, A: n}, api.Op{})
	}
	for n := 8; n < 400; n += 7 {
		s := strings.Repeat("z", n)
		wantBytes(t, c, n, text(api.Fixed, s), s+strings.Repeat("\x00", -n&3), 2)
	}
	wantBytes(t, c, 399, text(api.Fixed, strings.Repeat("z", 399)), strings.Repeat("z", 399)+"\x00", 2)
	wantEncode(t, c, 400, nothing, plenty, "", 0, api.ErrEngineCode)
	c.Entries = append(c.Entries, 800)
	c.Ops = append(c.Ops, api.Op{Code: api.OpFixed, A: 400}, api.Op{})
	wantEncode(t, c, 0, nothing, plenty, "", 0, api.ErrEngineCode)
}

// TestNoCode: codes that may not be, and entries that are none, are told ahead of all else, by each call.
func TestNoCode(t *testing.T) {
	x, c := coded(t, source)
	refused := func(what string, c api.Code, entry int) {
		t.Helper()
		for _, fuel := range []int{-1, 0, plenty} {
			for _, v := range []api.Value{nothing, whole(1), cells(33), items(api.List, slices.Repeat([]api.Value{whole(1)}, 300)...), num(api.Enum, 9)} {
				wantEncode(t, c, entry, v, fuel, "", 0, api.ErrEngineCode)
				wantPack(t, c, []int{0, entry}, []api.Value{nothing, v}, fuel, "", 0, api.ErrEngineCode)
				wantPack(t, c, []int{entry, 0}, []api.Value{v}, fuel, "", 0, api.ErrEngineCode)
			}
			for _, s := range []string{"", "\x00", "\x00\x00\x00\x00", strings.Repeat("\x00", 1001)} {
				wantDecode(t, c, entry, s, fuel, nothing, 0, api.ErrEngineCode)
				wantUnpack(t, c, []int{0, entry}, s, fuel, nil, 0, api.ErrEngineCode)
			}
		}
		if t.Failed() {
			t.Fatal(what)
		}
	}
	for _, entry := range []int{-1, -2, len(c.Entries), len(c.Entries) + 1, len(c.Ops) - 1, 1 << 32, math.MaxInt, math.MinInt} {
		refused("no entry", c, entry)
	}
	refused("nothing", api.Code{}, 0)
	refused("seven types", api.Code{Ops: slices.Clone(c.Ops[:14]), Entries: slices.Clone(c.Entries[:7])}, 0)
	eight := api.Code{Ops: slices.Clone(c.Ops[:16]), Entries: slices.Clone(c.Entries[:8])}
	wantBytes(t, eight, 7, num(api.Bool, 1), "\x00\x00\x00\x01", 2)
	refused("behind the last one", eight, 8)
	for what, spoil := range spoilt {
		y := copiedCode(c)
		spoil(t, x, &y)
		if codec.Right(y) {
			t.Fatalf("%s: it may be", what)
		}
		for _, entry := range []int{0, 1, 7, 8, len(y.Entries) - 1} {
			refused(what, y, entry)
		}
	}
}

func copiedCode(c api.Code) api.Code {
	y := api.Code{Ops: slices.Clone(c.Ops), Entries: slices.Clone(c.Entries)}
	for i := range y.Ops {
		y.Ops[i].T = slices.Clone(y.Ops[i].T)
	}
	return y
}

// headOf is the operation with which the type of a name begins.
func headOf(t *testing.T, x api.Schema, c *api.Code, name string) *api.Op {
	return &c.Ops[c.Entries[place(t, x, name)]]
}

// spoilt are ways to make a code that may not be, whichever of its entries is run.
var spoilt = map[string]func(t *testing.T, x api.Schema, c *api.Code){
	"a first type":      func(t *testing.T, x api.Schema, c *api.Code) { c.Ops[6].Code = api.OpInt },
	"no such operation": func(t *testing.T, x api.Schema, c *api.Code) { headOf(t, x, c, "e").Code = 19 },
	"below nought":      func(t *testing.T, x api.Schema, c *api.Code) { headOf(t, x, c, "e").Code = -1 },
	"no end":            func(t *testing.T, x api.Schema, c *api.Code) { c.Ops = c.Ops[:len(c.Ops)-1] },
	"an end more":       func(t *testing.T, x api.Schema, c *api.Code) { c.Ops = append(c.Ops, api.Op{}) },
	"an entry more":     func(t *testing.T, x api.Schema, c *api.Code) { c.Entries = append(c.Entries, len(c.Ops)) },
	"an entry less":     func(t *testing.T, x api.Schema, c *api.Code) { c.Entries = c.Entries[:len(c.Entries)-1] },
	"an entry astray":   func(t *testing.T, x api.Schema, c *api.Code) { c.Entries[9]++ },
	"no such entry":     func(t *testing.T, x api.Schema, c *api.Code) { headOf(t, x, c, "perhaps").B++ },
	"far beyond":        func(t *testing.T, x api.Schema, c *api.Code) { headOf(t, x, c, "perhaps").B = math.MaxInt },
	"of nothing":        func(t *testing.T, x api.Schema, c *api.Code) { headOf(t, x, c, "ints").B = 0 },
	"no size":           func(t *testing.T, x api.Schema, c *api.Code) { headOf(t, x, c, "two").A = 0 },
	"a great size":      func(t *testing.T, x api.Schema, c *api.Code) { headOf(t, x, c, "some").A = 1 << 32 },
	"something more":    func(t *testing.T, x api.Schema, c *api.Code) { headOf(t, x, c, "some").B = 2 },
	"numbers more":      func(t *testing.T, x api.Schema, c *api.Code) { headOf(t, x, c, "some").T = []int{1} },
	"no numbers":        func(t *testing.T, x api.Schema, c *api.Code) { headOf(t, x, c, "e").T = nil },
	"a number twice":    func(t *testing.T, x api.Schema, c *api.Code) { headOf(t, x, c, "e").T[0] = 0 },
	"no fields":         func(t *testing.T, x api.Schema, c *api.Code) { headOf(t, x, c, "point").A = 0 },
	"a field too many":  func(t *testing.T, x api.Schema, c *api.Code) { headOf(t, x, c, "point").A = 3 },
	"too many fields":   func(t *testing.T, x api.Schema, c *api.Code) { headOf(t, x, c, "point").A = math.MaxInt },
	"no arms":           func(t *testing.T, x api.Schema, c *api.Code) { headOf(t, x, c, "byint").T = nil },
	"a case alone": func(t *testing.T, x api.Schema, c *api.Code) {
		headOf(t, x, c, "byint").T = headOf(t, x, c, "byint").T[:3]
	},
	"no such arm":   func(t *testing.T, x api.Schema, c *api.Code) { headOf(t, x, c, "byint").T[1]++ },
	"no such else":  func(t *testing.T, x api.Schema, c *api.Code) { headOf(t, x, c, "shape").A = -2 },
	"told by float": func(t *testing.T, x api.Schema, c *api.Code) { headOf(t, x, c, "shape").B = c.Entries[api.Float] },
	"within itself": func(t *testing.T, x api.Schema, c *api.Code) {
		at := c.Entries[place(t, x, "point")]
		c.Ops[at+1] = api.Op{Code: api.OpCall, B: at}
	},
	"called, though plain": func(t *testing.T, x api.Schema, c *api.Code) {
		c.Ops[c.Entries[place(t, x, "point")]+1] = api.Op{Code: api.OpCall, B: c.Entries[api.Int]}
	},
	"too great": func(t *testing.T, x api.Schema, c *api.Code) {
		headOf(t, x, c, "three").A = 251
	},
}

// TestRightStill: codes that were changed, and may be, are run as they are now.
func TestRightStill(t *testing.T) {
	x, c := coded(t, source)
	one := "\x00\x00\x00\x01"
	headOf(t, x, &c, "three").Code = api.OpList
	wantBytes(t, c, place(t, x, "three"), items(api.List, whole(1)), one+one, 4)
	headOf(t, x, &c, "some").Code = api.OpFixed
	wantBytes(t, c, place(t, x, "some"), text(api.Fixed, "abcde"), "abcde\x00\x00\x00", 2)
	headOf(t, x, &c, "shape").A = -1
	wantNone(t, c, place(t, x, "shape"), choice(0, nothing), api.ErrEngineCase, 3)
	wantRefused(t, c, place(t, x, "shape"), "\x00\x00\x00\x00", api.ErrEngineCase, 3)
	headOf(t, x, &c, "e").T = []int{1, 5, -1}
	wantBytes(t, c, place(t, x, "e"), num(api.Enum, 1), one, 2)
	wantNone(t, c, place(t, x, "e"), num(api.Enum, 0), api.ErrEngineCase, 1)
	headOf(t, x, &c, "pair").B = c.Entries[place(t, x, "pair")]
	wantBytes(t, c, place(t, x, "pair"), items(api.List, items(api.List)), one+"\x00\x00\x00\x00", 4)
	// A number that stands in T as an entry is no case.
	headOf(t, x, &c, "byint").T = []int{9, 2, 4, 0}
	wantNone(t, c, place(t, x, "byint"), choice(2, whole(1)), api.ErrEngineCase, 3)
	wantNone(t, c, place(t, x, "byint"), choice(0, nothing), api.ErrEngineCase, 3)
	wantBytes(t, c, place(t, x, "byint"), choice(9, whole(1)), "\x00\x00\x00\x09"+one, 6)
	wantBytes(t, c, place(t, x, "byint"), choice(4, nothing), "\x00\x00\x00\x04", 6)
}

// TestManyCases: a union with as many cases as there may be.
func TestManyCases(t *testing.T) {
	op := api.Op{Code: api.OpUnion, A: 14, B: 2}
	for n := range 64 * 64 {
		op.T = append(op.T, n, 2)
	}
	_, c := coded(t, "")
	c.Entries, c.Ops = append(c.Entries, 16), append(c.Ops, op, api.Op{})
	for _, n := range []int{0, 1, 63, 64, 4094, 4095} {
		s := string([]byte{0, 0, byte(n >> 8), byte(n)})
		wantBytes(t, c, 8, choice(n, whole(3)), s+"\x00\x00\x00\x03", 6)
		wantNone(t, c, 8, choice(n, num(api.Bool, 0)), api.ErrEngineValue, 4)
	}
	wantBytes(t, c, 8, choice(4096, num(api.Bool, 1)), "\x00\x00\x10\x00\x00\x00\x00\x01", 6)
	wantBytes(t, c, 8, choice(-1, num(api.Bool, 1)), "\xff\xff\xff\xff\x00\x00\x00\x01", 6)
}

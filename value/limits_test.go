package value_test

import (
	"math"
	"slices"
	"strings"
	"testing"

	"callbox/api"
	"callbox/value"
)

// TestLong is A1, A3 and A4 at 1000 bytes.
func TestLong(t *testing.T) {
	x := compiled(t, source+"typedef hyper most[125]; typedef opaque whole[1000]; typedef opaque whole2[997];")
	ones := func(n int) api.Value { return items(api.List, slices.Repeat([]api.Value{whole(1)}, n)...) }
	wantBytes(t, x, place(t, x, "ints"), ones(249), "\x00\x00\x00\xf9"+strings.Repeat("\x00\x00\x00\x01", 249))
	wantNone(t, x, place(t, x, "ints"), ones(250), api.ErrValueLong)
	wantNone(t, x, place(t, x, "ints"), ones(1000000), api.ErrValueLong)
	for _, c := range []struct {
		name string
		kind int
	}{{"bytes", api.Opaque}, {"chars", api.String}} {
		at := place(t, x, c.name)
		wantBytes(t, x, at, text(c.kind, strings.Repeat("x", 996)), "\x00\x00\x03\xe4"+strings.Repeat("x", 996))
		wantBytes(t, x, at, text(c.kind, strings.Repeat("x", 993)), "\x00\x00\x03\xe1"+strings.Repeat("x", 993)+"\x00\x00\x00")
		wantNone(t, x, at, text(c.kind, strings.Repeat("x", 997)), api.ErrValueLong)
		wantNone(t, x, at, text(c.kind, strings.Repeat("x", 1<<20)), api.ErrValueLong)
	}
	wantBytes(t, x, place(t, x, "most"), items(api.Array, slices.Repeat([]api.Value{num(api.Hyper, -1)}, 125)...), strings.Repeat("\xff", 1000))
	wantBytes(t, x, place(t, x, "whole"), text(api.Fixed, strings.Repeat("y", 1000)), strings.Repeat("y", 1000))
	wantBytes(t, x, place(t, x, "whole2"), text(api.Fixed, strings.Repeat("y", 997)), strings.Repeat("y", 997)+"\x00\x00\x00")
	// One value more, at each place where something is laid down.
	at := place(t, x, "shapes")
	voids := slices.Repeat([]api.Value{choice(0, nothing)}, 249)
	wantBytes(t, x, at, items(api.List, voids...), "\x00\x00\x00\xf9"+strings.Repeat("\x00\x00\x00\x00", 249))
	wantNone(t, x, at, items(api.List, append(voids, choice(0, nothing))...), api.ErrValueLong)
	voids[248] = choice(1, parts(whole(1), whole(2)))
	wantNone(t, x, at, items(api.List, voids...), api.ErrValueLong)
	voids = voids[2:]
	wantBytes(t, x, at, items(api.List, voids...), "\x00\x00\x00\xf7"+strings.Repeat("\x00\x00\x00\x00", 246)+"\x00\x00\x00\x01\x00\x00\x00\x01\x00\x00\x00\x02")
}

// TestLongTexts is A4: that a text is too long goes ahead of all that is wrong in it.
func TestLongTexts(t *testing.T) {
	x := compiled(t, source)
	for _, name := range []string{"void", "int", "bool", "e", "chars", "ints", "cell", "shape", "point"} {
		at := place(t, x, name)
		for _, fill := range []string{"\x00", "\xff", "\x01"} {
			wantRefused(t, x, at, strings.Repeat(fill, 1001), api.ErrValueLong)
			wantRefused(t, x, at, strings.Repeat(fill, 1004), api.ErrValueLong)
			wantRefused(t, x, at, strings.Repeat(fill, 1<<20), api.ErrValueLong)
			if _, e := value.Decode(x, at, strings.Repeat(fill, 1000)); e == api.ErrValueLong {
				t.Errorf("%s: 1000 bytes are too long", name)
			}
		}
	}
	wantRefused(t, x, api.Void, strings.Repeat("\x00", 1000), api.ErrXdrMore)
}

// nested is a nest within a nest .., n of them: 2 n deep, the last one's list counted.
func nested(n int) api.Value {
	v := parts(items(api.List))
	for range n - 1 {
		v = parts(items(api.List, v))
	}
	return v
}

// TestDeep is A1 and A4 at depths of 64 and 65.
func TestDeep(t *testing.T) {
	x := compiled(t, source+`
		struct odd { cell c; };
		union tree switch (int d) { case 0: void; case 1: tree *t; };
		typedef cell row[1];
		typedef cell few<2>;
		typedef cell *may;`)
	one := "\x00\x00\x00\x01"
	link := "\x00\x00\x00\x00\x00\x00\x00\x00" + one
	last := strings.Repeat("\xff", 8) + "\x00\x00\x00\x00"
	// 64 deep by itself, 65 with one thing around it.
	for _, c := range []struct {
		name, ahead string
		v           api.Value
	}{
		{"odd", "", parts(cells(32))},
		{"row", "", items(api.Array, cells(32))},
		{"few", one, items(api.List, cells(32))},
		{"may", one, items(api.Maybe, cells(32))},
	} {
		at := place(t, x, c.name)
		if d := value.Depth(c.v); d != 65 {
			t.Errorf("%s: %d", c.name, d)
		}
		wantNone(t, x, at, c.v, api.ErrValueDeep)
		wantRefused(t, x, at, c.ahead+strings.Repeat(link, 31)+last, api.ErrValueDeep)
		c.v.Items[0] = cells(31)
		wantBytes(t, x, at, c.v, c.ahead+strings.Repeat(link, 30)+last)
	}
	nest := place(t, x, "nest")
	wantBytes(t, x, nest, nested(32), strings.Repeat(one, 31)+"\x00\x00\x00\x00")
	wantNone(t, x, nest, nested(33), api.ErrValueDeep)
	wantRefused(t, x, nest, strings.Repeat(one, 32)+"\x00\x00\x00\x00", api.ErrValueDeep)
	// The Void of a union counts, though it has no bytes.
	tree := place(t, x, "tree")
	trees := func(n int) api.Value {
		v := choice(0, nothing)
		for range n {
			v = choice(1, items(api.Maybe, v))
		}
		return v
	}
	wantBytes(t, x, tree, trees(31), strings.Repeat(one+one, 31)+"\x00\x00\x00\x00")
	wantNone(t, x, tree, trees(32), api.ErrValueDeep)
	wantRefused(t, x, tree, strings.Repeat(one+one, 32)+"\x00\x00\x00\x00", api.ErrValueDeep)
	for n, want := range map[int]int{31: 64, 32: 66} {
		if d := value.Depth(trees(n)); d != want {
			t.Errorf("%d trees: %d", n, d)
		}
	}
}

// TestDeepFirst is A4: what stands too deep is wrong where it would begin: behind all that stands ahead, and ahead of its own bytes.
func TestDeepFirst(t *testing.T) {
	x := compiled(t, source+`
		union tree switch (int d) { case 0: void; case 1: tree *t; };
		struct around { tree t; };
		struct few { few kids<1>; };
		struct row { row *next; int last[1]; };
		struct rows { row r; };`)
	one, none := "\x00\x00\x00\x01", "\x00\x00\x00\x00"
	link := "\x00\x00\x00\x00\x00\x00\x00\x00" + one
	// The 32nd cell's Maybe stands at 64.
	cell, ahead := place(t, x, "cell"), strings.Repeat(link, 31)
	wantBytes(t, x, cell, cells(32), ahead+strings.Repeat("\xff", 8)+none)
	wantRefused(t, x, cell, ahead+link[:7], api.ErrXdrShort)
	wantRefused(t, x, cell, ahead+link[:11], api.ErrXdrShort)
	wantRefused(t, x, cell, ahead+link[:11]+"\x02", api.ErrXdrBool)
	wantRefused(t, x, cell, ahead+link, api.ErrValueDeep)
	wantRefused(t, x, cell, ahead+link+"\xff", api.ErrValueDeep)
	wantRefused(t, x, cell, ahead+link[:8]+none+"\xff", api.ErrXdrMore)
	// The 32nd of few has its list at 64.
	few, ahead := place(t, x, "few"), strings.Repeat(one, 31)
	wantRefused(t, x, few, ahead, api.ErrXdrShort)
	wantRefused(t, x, few, ahead+"\x00\x00\x00\x02", api.ErrXdrLong)
	wantRefused(t, x, few, ahead+one, api.ErrValueDeep)
	wantRefused(t, x, place(t, x, "nest"), ahead+"\xff\xff\xff\xff", api.ErrValueDeep)
	// A tree within around stands at 64: its Void would be the 65th.
	around, ahead := place(t, x, "around"), strings.Repeat(one+one, 31)
	wantRefused(t, x, around, ahead, api.ErrXdrShort)
	wantRefused(t, x, around, ahead+"\x00\x00\x00\x02", api.ErrValueCase)
	wantRefused(t, x, around, ahead+none, api.ErrValueDeep)
	wantRefused(t, x, around, ahead+one, api.ErrValueDeep)
	// An array at 64: its first Item is too deep at once; a number ahead of it in a struct at 64 likewise.
	rows, ahead := place(t, x, "rows"), strings.Repeat(one, 31)
	wantRefused(t, x, rows, ahead, api.ErrValueDeep)
	wantRefused(t, x, place(t, x, "row"), ahead, api.ErrXdrShort)
	wantRefused(t, x, place(t, x, "row"), ahead+none, api.ErrValueDeep)
	wantRefused(t, x, place(t, x, "row"), ahead[4:]+none, api.ErrXdrShort)
}

// TestGreat: what is nested and spread as far as the bound lets it be.
func TestGreat(t *testing.T) {
	x := compiled(t, source)
	deep := func(n int) api.Value {
		v := whole(1)
		for range n - 1 {
			v = parts(v)
		}
		return v
	}
	a, b := deep(1<<16), deep(1<<16)
	if d := value.Depth(a); d != 1<<16 {
		t.Errorf("%d deep", d)
	}
	if !value.Same(a, b) || value.Same(a, deep(1<<16-1)) {
		t.Error("what is deep is not the same")
	}
	for at := range x.Types {
		wantNone(t, x, at, a, api.ErrValueDeep)
	}
	wide := slices.Repeat([]api.Value{whole(1)}, 1<<20)
	if d := value.Depth(items(api.List, wide...)); d != 2 {
		t.Errorf("wide: %d deep", d)
	}
	for at := range x.Types {
		want := api.ErrValueType
		if at == place(t, x, "ints") {
			want = api.ErrValueLong
		}
		wantNone(t, x, at, items(api.List, wide...), want)
	}
}

// TestNoSchema: schemas that may not be, and places that are none, are told ahead of all else, by each call.
func TestNoSchema(t *testing.T) {
	x := compiled(t, source)
	refused := func(what string, y api.Schema, at int) {
		t.Helper()
		for _, v := range []api.Value{nothing, whole(1), cells(33), items(api.List, slices.Repeat([]api.Value{whole(1)}, 300)...), num(api.Enum, 9)} {
			if e := value.Fits(y, at, v); e != api.ErrValueSchema {
				t.Errorf("%s: Fits: %d", what, e)
			}
			if s, e := value.Encode(y, at, v); s != "" || e != api.ErrValueSchema {
				t.Errorf("%s: Encode: %q, %d", what, s, e)
			}
		}
		for _, s := range []string{"", "\x00", "\x00\x00\x00\x00", strings.Repeat("\x00", 1001)} {
			if v, e := value.Decode(y, at, s); !alike(v, nothing) || e != api.ErrValueSchema {
				t.Errorf("%s: Decode: %s, %d", what, short(v), e)
			}
		}
		if v, e := value.Least(y, at); !alike(v, nothing) || e != api.ErrValueSchema {
			t.Errorf("%s: Least: %s, %d", what, short(v), e)
		}
	}
	for _, at := range []int{-1, -2, len(x.Types), len(x.Types) + 1, 1 << 32, math.MaxInt, math.MinInt} {
		refused("no place", x, at)
	}
	first := api.Schema{Types: slices.Clone(x.Types[:8])}
	refused("behind the last one", first, 8)
	wantBytes(t, first, 7, num(api.Bool, 1), "\x00\x00\x00\x01")
	refused("nothing", api.Schema{}, 0)
	refused("seven types", api.Schema{Types: slices.Clone(x.Types[:7])}, 0)
	for what, spoil := range spoilt {
		y := api.Schema{Types: slices.Clone(x.Types), Names: slices.Clone(x.Names)}
		spoil(t, &y)
		for _, at := range []int{0, 1, 7, 8, len(y.Types) - 1} {
			refused(what, y, at)
		}
	}
}

// spoilt are ways to make a schema that may not be, whichever of its types is asked.
var spoilt = map[string]func(t *testing.T, x *api.Schema){
	"a first type": func(t *testing.T, x *api.Schema) { x.Types[3].Kind = api.Int },
	"no such kind": func(t *testing.T, x *api.Schema) { x.Types[9].Kind = 17 },
	"no such type": func(t *testing.T, x *api.Schema) { x.Types[place(t, *x, "perhaps")].Of = len(x.Types) },
	"below nought": func(t *testing.T, x *api.Schema) { x.Types[place(t, *x, "three")].Of = -1 },
	"of nothing":   func(t *testing.T, x *api.Schema) { x.Types[place(t, *x, "ints")].Of = 0 },
	"no size":      func(t *testing.T, x *api.Schema) { x.Types[place(t, *x, "two")].Size = 0 },
	"a great size": func(t *testing.T, x *api.Schema) { x.Types[place(t, *x, "some")].Size = 1 << 32 },
	"no members":   func(t *testing.T, x *api.Schema) { x.Types[place(t, *x, "e")].Members = nil },
	"no fields":    func(t *testing.T, x *api.Schema) { x.Types[place(t, *x, "point")].Fields = nil },
	"no arms": func(t *testing.T, x *api.Schema) {
		y := &x.Types[place(t, *x, "shape")]
		y.Arms, y.Else = nil, -1
	},
	"else alone": func(t *testing.T, x *api.Schema) {
		y := &x.Types[place(t, *x, "shape")]
		y.Arms, y.Else = y.Arms[1:], 0
	},
	"no such else":  func(t *testing.T, x *api.Schema) { x.Types[place(t, *x, "shape")].Else = 2 },
	"told by float": func(t *testing.T, x *api.Schema) { x.Types[place(t, *x, "shape")].Of = api.Float },
	"within itself": func(t *testing.T, x *api.Schema) {
		at := place(t, *x, "point")
		x.Types[at].Fields = []api.Field{{Name: "x", Type: at}}
	},
	"too great": func(t *testing.T, x *api.Schema) {
		x.Types = append(x.Types, api.Type{Kind: api.Array, Size: 1000, Of: api.Hyper})
	},
	"no name":        func(t *testing.T, x *api.Schema) { x.Names[0].Name = "1" },
	"a name twice":   func(t *testing.T, x *api.Schema) { x.Names = append(x.Names, x.Names[0]) },
	"no procedures":  func(t *testing.T, x *api.Schema) { x.Programs = []api.Program{{Name: "P", Number: 1}} },
	"too many types": func(t *testing.T, x *api.Schema) { x.Types = slices.Concat(x.Types, slices.Repeat(x.Types[8:9], 400)) },
}

package notation_test

import (
	"fmt"
	"math"
	"slices"
	"strings"
	"testing"

	"callbox/api"
	"callbox/notation"
	"callbox/value"
)

const (
	long1 = "a_long_name_of_thirty_two_bytes1"
	long2 = "a_long_name_of_thirty_two_bytes2"
)

// longRows are a list of so many structs of one number, so many of which have two digits, and its text: 37 bytes each, and one for each digit more, and one.
func longRows(n, more int) (api.Value, string) {
	row := items(api.List)
	var each []string
	for i := range n {
		if i < more {
			row.Items = append(row.Items, parts(whole(10)))
			each = append(each, "{"+long2+"=10}")
		} else {
			row.Items = append(row.Items, parts(whole(1)))
			each = append(each, "{"+long2+"=1}")
		}
	}
	return row, "[" + strings.Join(each, ",") + "]"
}

// TestLongTexts is V1 and V2 at 8000 bytes.
func TestLongTexts(t *testing.T) {
	x := compiled(t, "struct "+long1+" { int "+long2+"; }; typedef "+long1+" row<>; typedef row *may; struct cell { int n; cell *next; };")
	row, may := place(t, x, "row"), place(t, x, "may")
	for more := range 20 {
		v, s := longRows(216, more)
		if len(s) != 7993+more {
			t.Fatalf("%d bytes", len(s))
		}
		if more <= 7 {
			wantText(t, x, row, v, s)
		} else {
			wantNone(t, x, row, v, api.ErrNotationLong)
			wantWrong(t, x, row, s, api.ErrNotationLong, 8000)
		}
		if more <= 6 {
			wantText(t, x, may, items(api.Maybe, v), "*"+s)
		} else {
			wantNone(t, x, may, items(api.Maybe, v), api.ErrNotationLong)
			wantWrong(t, x, may, "*"+s, api.ErrNotationLong, 8000)
		}
	}
	// What layer 6 refuses goes ahead of that.
	v, _ := longRows(249, 0)
	wantNone(t, x, row, v, api.ErrNotationLong)
	v, _ = longRows(250, 0)
	wantNone(t, x, row, v, api.ErrValueLong)
	v.Items[249].Text = "x"
	wantNone(t, x, row, v, api.ErrValueType)
	v.Items[0] = cells(33)
	wantNone(t, x, row, v, api.ErrValueDeep)
	wantNone(t, x, -1, v, api.ErrValueSchema)
}

// cells are n of them in a row.
func cells(n int) api.Value {
	v := parts(whole(1), items(api.Maybe))
	for range n - 1 {
		v = parts(whole(1), items(api.Maybe, v))
	}
	return v
}

func cellText(n int) string {
	return strings.Repeat("{n=1,next=*", n-1) + "{n=1,next=none}" + strings.Repeat("}", n-1)
}

// TestTooLongAheadOfAll is V2: a text of more than 8000 bytes is refused, whatever it says.
func TestTooLongAheadOfAll(t *testing.T) {
	x := compiled(t, source)
	for at := range x.Types {
		for _, fill := range []string{"0", " ", "\x00", "\xff", "#", "\"", "[", "*", "{", "("} {
			wantWrong(t, x, at, strings.Repeat(fill, 8001), api.ErrNotationLong, 8000)
			wantWrong(t, x, at, strings.Repeat(fill, 20000), api.ErrNotationLong, 8000)
			if _, e, _ := notation.Parse(x, at, strings.Repeat(fill, 8000)); e == api.ErrNotationLong || e == api.OK {
				t.Errorf("type %d, 8000 times %s: %d", at, fill, e)
			}
		}
	}
	wantWrong(t, x, api.Int, "1"+strings.Repeat(" ", 7999), form, 1)
	wantWrong(t, x, api.Int, "1"+strings.Repeat(" ", 8000), api.ErrNotationLong, 8000)
	wantWrong(t, x, api.Int, strings.Repeat("1", 1<<20), api.ErrNotationLong, 8000)
}

// TestLongValues is V2 at 1000 bytes of a value: the text may be far shorter than 8000.
func TestLongValues(t *testing.T) {
	x := compiled(t, source+"typedef opaque most[1000];")
	ints, most := place(t, x, "ints"), place(t, x, "most")
	ones := func(n int) (api.Value, string) {
		return items(api.List, slices.Repeat([]api.Value{whole(1)}, n)...), "[" + strings.Repeat("1,", n-1) + "1]"
	}
	v, s := ones(249)
	wantText(t, x, ints, v, s)
	for _, n := range []int{250, 251, 3000, 3999} {
		v, s := ones(n)
		wantNone(t, x, ints, v, api.ErrValueLong)
		wantWrong(t, x, ints, s, api.ErrValueLong, 0)
	}
	full := strings.Repeat("\xab", 1000)
	wantText(t, x, most, text(api.Fixed, full), "#"+strings.Repeat("ab", 1000))
	wantWrong(t, x, most, "#"+strings.Repeat("ab", 1001), rang, 0)
	for _, c := range []struct {
		name, unit, one string
		front, back     string
		kind            int
	}{
		{"bytes", "00", "\x00", "#", "", api.Opaque},
		{"chars", "a", "a", `"`, `"`, api.String},
		{"chars", `\x00`, "\x00", `"`, `"`, api.String},
		{"chars", `\\`, `\`, `"`, `"`, api.String},
	} {
		at := place(t, x, c.name)
		wantText(t, x, at, text(c.kind, strings.Repeat(c.one, 996)), c.front+strings.Repeat(c.unit, 996)+c.back)
		wantNone(t, x, at, text(c.kind, strings.Repeat(c.one, 997)), api.ErrValueLong)
		wantWrong(t, x, at, c.front+strings.Repeat(c.unit, 997)+c.back, api.ErrValueLong, 0)
	}
	// What is wrong in the text goes ahead, however far behind the 1000th byte it stands.
	wantWrong(t, x, ints, "["+strings.Repeat("1,", 3000)+"01]", form, 6001)
	wantWrong(t, x, ints, "["+strings.Repeat("1,", 3000)+"2147483648]", rang, 6001)
	wantWrong(t, x, ints, "["+strings.Repeat("1,", 3000)+"1] ", form, 6003)
}

// TestDeep is V2 at a depth of 64.
func TestDeep(t *testing.T) {
	x := compiled(t, source+"struct odd { cell c; }; struct both { chars s; cell c; };")
	cell := place(t, x, "cell")
	wantText(t, x, cell, cells(32), cellText(32))
	for _, n := range []int{33, 34, 100, 600} {
		wantNone(t, x, cell, cells(n), api.ErrValueDeep)
		wantWrong(t, x, cell, cellText(n), api.ErrValueDeep, 0)
		// What is wrong in the text goes ahead, also far below.
		wantWrong(t, x, cell, cellText(n)+"}", form, len(cellText(n)))
		wantWrong(t, x, cell, cellText(n)[:len(cellText(n))-1], form, len(cellText(n))-1)
		wantWrong(t, x, cell, strings.Replace(cellText(n), "none", "nine", 1), form, 11*n-1)
	}
	// 64 and 65.
	odd := place(t, x, "odd")
	wantText(t, x, odd, parts(cells(31)), "{c="+cellText(31)+"}")
	wantNone(t, x, odd, parts(cells(32)), api.ErrValueDeep)
	wantWrong(t, x, odd, "{c="+cellText(32)+"}", api.ErrValueDeep, 0)
	// Too deep goes ahead of too long.
	both := place(t, x, "both")
	wantWrong(t, x, both, `{s="`+strings.Repeat("a", 1100)+`",c=`+cellText(32)+"}", api.ErrValueDeep, 0)
	wantWrong(t, x, both, `{s="`+strings.Repeat("a", 1100)+`",c=`+cellText(31)+"}", api.ErrValueLong, 0)
	wantWrong(t, x, cell, cellText(400), api.ErrValueDeep, 0)
}

// TestOfItself: of types that have nothing but themselves within, texts as deep as they can be.
func TestOfItself(t *testing.T) {
	x := compiled(t, "")
	x.Types = append(x.Types, api.Type{Kind: api.Maybe, Of: 8}, api.Type{Kind: api.List, Of: 9, Size: 2})
	maybe, list := 8, 9
	mays := func(n int) api.Value {
		v := items(api.Maybe)
		for range n {
			v = items(api.Maybe, v)
		}
		return v
	}
	lists := func(n int) api.Value {
		v := items(api.List)
		for range n {
			v = items(api.List, v)
		}
		return v
	}
	wantText(t, x, maybe, mays(0), "none")
	wantText(t, x, maybe, mays(63), strings.Repeat("*", 63)+"none")
	wantNone(t, x, maybe, mays(64), api.ErrValueDeep)
	for _, n := range []int{64, 65, 1000, 7996} {
		wantWrong(t, x, maybe, strings.Repeat("*", n)+"none", api.ErrValueDeep, 0)
	}
	wantWrong(t, x, maybe, strings.Repeat("*", 7997)+"none", api.ErrNotationLong, 8000)
	wantWrong(t, x, maybe, strings.Repeat("*", 7997)+"non", form, 7997)
	wantWrong(t, x, maybe, strings.Repeat("*", 8000), form, 8000)
	wantText(t, x, list, lists(63), strings.Repeat("[", 64)+strings.Repeat("]", 64))
	wantNone(t, x, list, lists(64), api.ErrValueDeep)
	for _, n := range []int{65, 66, 1000, 4000} {
		wantWrong(t, x, list, strings.Repeat("[", n)+strings.Repeat("]", n), api.ErrValueDeep, 0)
		wantWrong(t, x, list, strings.Repeat("[", n)+strings.Repeat("]", n-1), form, 2*n-1)
	}
	wantWrong(t, x, list, strings.Repeat("[", 8000), form, 8000)
	wantWrong(t, x, list, "[[],[],[]]", rang, 0)
	wantWrong(t, x, list, "[[],[[],[],[]]]", rang, 4)
	wantWrong(t, x, list, strings.Repeat("[", 2000)+"[],[],[]"+strings.Repeat("]", 2000), rang, 1999)
}

// TestBoundOfLists is V2: lists and opaques of none, of as many as there may be, and of one more.
func TestBoundOfLists(t *testing.T) {
	x := compiled(t, "typedef bool none<0>; typedef bool one<1>; typedef bool many<100>; typedef bool all[100]; typedef opaque o<100>; typedef string s<100>; typedef opaque f[100];")
	for _, c := range []struct {
		name      string
		kind, max int
	}{{"none", api.List, 0}, {"one", api.List, 1}, {"many", api.List, 100}, {"all", api.Array, 100}} {
		at := place(t, x, c.name)
		for n := range 103 {
			s := "[" + strings.TrimSuffix(strings.Repeat("TRUE,", n), ",") + "]"
			v := items(c.kind, slices.Repeat([]api.Value{num(api.Bool, 1)}, n)...)
			if n > c.max || c.kind == api.Array && n < c.max {
				wantWrong(t, x, at, s, rang, 0)
				wantNone(t, x, at, v, api.ErrValueType)
			} else {
				wantText(t, x, at, v, s)
			}
		}
	}
	for n := range 103 {
		in, digits := strings.Repeat("b", n), "#"+strings.Repeat("62", n)
		if n <= 100 {
			wantText(t, x, place(t, x, "o"), text(api.Opaque, in), digits)
			wantText(t, x, place(t, x, "s"), chars(in), `"`+in+`"`)
		} else {
			wantWrong(t, x, place(t, x, "o"), digits, rang, 0)
			wantWrong(t, x, place(t, x, "s"), `"`+in+`"`, rang, 0)
		}
		if n == 100 {
			wantText(t, x, place(t, x, "f"), text(api.Fixed, in), digits)
		} else {
			wantWrong(t, x, place(t, x, "f"), digits, rang, 0)
		}
		wantWrong(t, x, place(t, x, "o"), digits+"0", form, 0)
		wantWrong(t, x, place(t, x, "f"), digits+"0", form, 0)
	}
}

// TestManyParts: an enum, a struct and a union of 64 parts, whose names are the fronts of one another.
func TestManyParts(t *testing.T) {
	var members, fields, cases, want []string
	v := parts()
	for i := range 64 {
		name := strings.Repeat(string(rune('a'+i/16)), 1+i%16)
		members = append(members, fmt.Sprintf("m%s = %d", name, i-5))
		fields = append(fields, fmt.Sprintf("e f%s;", name))
		cases = append(cases, fmt.Sprintf("case m%s: int g%s;", name, name))
		want = append(want, fmt.Sprintf("f%s=m%s", name, name))
		v.Items = append(v.Items, num(api.Enum, i-5))
	}
	x := compiled(t, "enum e { "+strings.Join(members, ", ")+" }; struct s { "+strings.Join(fields, " ")+" }; union u switch (e d) { "+strings.Join(cases, " ")+" };")
	wantText(t, x, place(t, x, "s"), v, "{"+strings.Join(want, ",")+"}")
	for i, w := range want {
		field, member, _ := strings.Cut(w, "=")
		arm := "g" + field[1:]
		wantText(t, x, place(t, x, "e"), num(api.Enum, i-5), member)
		wantText(t, x, place(t, x, "u"), choice(i-5, whole(i)), fmt.Sprintf("(%s:%s=%d)", member, arm, i))
		wantWrong(t, x, place(t, x, "e"), member+"z", form, 0)
		wantWrong(t, x, place(t, x, "u"), "("+member+":"+arm+"z=0)", form, 2+len(member)+len(arm))
		wantWrong(t, x, place(t, x, "u"), "("+member+":"+arm[:len(arm)-1]+"=0)", form, 1+len(member)+len(arm))
	}
}

// TestNoSchema: schemas that may not be, and places that are none, are told ahead of all else, by each call.
func TestNoSchema(t *testing.T) {
	x := compiled(t, source)
	refused := func(what string, y api.Schema, at int) {
		t.Helper()
		for _, v := range []api.Value{nothing, whole(1), cells(33), items(api.List, slices.Repeat([]api.Value{whole(1)}, 300)...), num(api.Enum, 9), {Kind: -1}} {
			if s, e := notation.Print(y, at, v); s != "" || e != api.ErrValueSchema {
				t.Errorf("%s: Print: %s, %d", what, s, e)
			}
		}
		for _, s := range []string{"", "void", "1", " ", "{x=1,y=-1}", strings.Repeat("\x00", 8000), strings.Repeat("1", 8001)} {
			if v, e, n := notation.Parse(y, at, s); !alike(v, nothing) || e != api.ErrValueSchema || n != 0 {
				t.Errorf("%s: Parse: %s, %d at %d", what, short(v), e, n)
			}
		}
	}
	for _, at := range []int{-1, -2, len(x.Types), len(x.Types) + 1, 1 << 32, math.MaxInt, math.MinInt} {
		refused("no place", x, at)
	}
	first := api.Schema{Types: slices.Clone(x.Types[:8])}
	refused("behind the last one", first, 8)
	wantText(t, first, 7, num(api.Bool, 1), "TRUE")
	refused("nothing", api.Schema{}, 0)
	refused("seven types", api.Schema{Types: slices.Clone(x.Types[:7])}, 0)
	for what, spoil := range spoilt {
		y := api.Schema{Types: slices.Clone(x.Types), Names: slices.Clone(x.Names)}
		spoil(t, &y)
		for _, at := range []int{0, 1, 7, 8, len(y.Types) - 1, len(y.Types), -1} {
			refused(what, y, at)
			if _, e := value.Least(y, at); e != api.ErrValueSchema {
				t.Errorf("%s: layer 6 takes it", what)
			}
		}
	}
}

// spoilt are ways to make a schema that may not be, whichever of its types is asked.
var spoilt = map[string]func(t *testing.T, x *api.Schema){
	"a first type": func(t *testing.T, x *api.Schema) { x.Types[3].Kind = api.Int },
	"no such kind": func(t *testing.T, x *api.Schema) { x.Types[9].Kind = 17 },
	"no such type": func(t *testing.T, x *api.Schema) { x.Types[place(t, *x, "perhaps")].Of = len(x.Types) },
	"below nought": func(t *testing.T, x *api.Schema) { x.Types[place(t, *x, "three")].Of = -1 },
	"of nothing":   func(t *testing.T, x *api.Schema) { x.Types[place(t, *x, "ints")].Of = 0 },
	"no size":      func(t *testing.T, x *api.Schema) { x.Types[place(t, *x, "two")].Size = 0 },
	"a great size": func(t *testing.T, x *api.Schema) { x.Types[place(t, *x, "some")].Size = 1 << 32 },
	"no members":   func(t *testing.T, x *api.Schema) { x.Types[place(t, *x, "e")].Members = nil },
	"a member's name": func(t *testing.T, x *api.Schema) {
		e := &x.Types[place(t, *x, "e")]
		e.Members = slices.Clone(e.Members)
		e.Members[0].Name = "a b"
	},
	"no fields": func(t *testing.T, x *api.Schema) { x.Types[place(t, *x, "point")].Fields = nil },
	"a field's name": func(t *testing.T, x *api.Schema) {
		x.Types[place(t, *x, "point")].Fields = []api.Field{{Name: "", Type: 1}}
	},
	"two fields of a name": func(t *testing.T, x *api.Schema) {
		x.Types[place(t, *x, "point")].Fields = []api.Field{{Name: "x", Type: 1}, {Name: "x", Type: 1}}
	},
	"a field that is void": func(t *testing.T, x *api.Schema) {
		x.Types[place(t, *x, "point")].Fields = []api.Field{{Name: "x", Type: 0}}
	},
	"no arms": func(t *testing.T, x *api.Schema) {
		y := &x.Types[place(t, *x, "u")]
		y.Arms, y.Else = nil, -1
	},
	"an arm without a name": func(t *testing.T, x *api.Schema) {
		x.Types[place(t, *x, "u")].Arms = []api.Arm{{Cases: []int{0}, Type: 1}}
		x.Types[place(t, *x, "u")].Else = -1
	},
	"no such else":  func(t *testing.T, x *api.Schema) { x.Types[place(t, *x, "u")].Else = 2 },
	"else far off":  func(t *testing.T, x *api.Schema) { x.Types[place(t, *x, "byint")].Else = 99 },
	"told by float": func(t *testing.T, x *api.Schema) { x.Types[place(t, *x, "u")].Of = api.Float },
	"within itself": func(t *testing.T, x *api.Schema) {
		at := place(t, *x, "point")
		x.Types[at].Fields = []api.Field{{Name: "x", Type: at}}
	},
	"too great": func(t *testing.T, x *api.Schema) {
		x.Types = append(x.Types, api.Type{Kind: api.Array, Size: 1000, Of: api.Hyper})
	},
	"no name":        func(t *testing.T, x *api.Schema) { x.Names[0].Name = "1" },
	"a name twice":   func(t *testing.T, x *api.Schema) { x.Names = append(x.Names, x.Names[0]) },
	"no procedures":  func(t *testing.T, x *api.Schema) { x.Programs = []api.Program{{Name: "P", Number: 1}} },
	"too many types": func(t *testing.T, x *api.Schema) { x.Types = slices.Concat(x.Types, slices.Repeat(x.Types[8:9], 400)) },
}

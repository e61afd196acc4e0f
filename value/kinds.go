package value

import (
	"math"
	"slices"

	"callbox/api"
)

// kind is what a type asks of its values. Those that there are follow; a type switch tells which one it is.
type kind interface {
	// number is the Kind that its values bear.
	number() int
}

type void struct{}

type integer struct{}

type word struct{}

// hyper is both kinds of 64 bits: their values and bytes are alike.
type hyper struct{ bears int }

type single struct{}

type double struct{}

type truth struct{}

type enum struct{ members []api.Member }

type fixed struct{ size int }

// text is an Opaque or a String: their values and bytes are alike.
type text struct{ bears, most int }

type array struct{ size, of int }

type list struct{ most, of int }

type maybe struct{ of int }

type structure struct{ fields []api.Field }

type union struct {
	of    int
	arms  []api.Arm
	other int
}

func (void) number() int      { return api.Void }
func (integer) number() int   { return api.Int }
func (word) number() int      { return api.Uint }
func (k hyper) number() int   { return k.bears }
func (single) number() int    { return api.Float }
func (double) number() int    { return api.Double }
func (truth) number() int     { return api.Bool }
func (enum) number() int      { return api.Enum }
func (fixed) number() int     { return api.Fixed }
func (k text) number() int    { return k.bears }
func (array) number() int     { return api.Array }
func (list) number() int      { return api.List }
func (maybe) number() int     { return api.Maybe }
func (structure) number() int { return api.Struct }
func (union) number() int     { return api.Union }

// kinds are those of a schema's types, by their places.
type kinds []kind

func kindsOf(x api.Schema) kinds {
	all := make(kinds, 0, len(x.Types))
	for _, t := range x.Types {
		all = append(all, kindOf(t))
	}
	return all
}

func kindOf(t api.Type) kind {
	switch t.Kind {
	case api.Int:
		return integer{}
	case api.Uint:
		return word{}
	case api.Hyper, api.Uhyper:
		return hyper{t.Kind}
	case api.Float:
		return single{}
	case api.Double:
		return double{}
	case api.Bool:
		return truth{}
	case api.Enum:
		return enum{t.Members}
	case api.Fixed:
		return fixed{t.Size}
	case api.Opaque, api.String:
		return text{t.Kind, t.Size}
	case api.Array:
		return array{t.Size, t.Of}
	case api.List:
		return list{t.Size, t.Of}
	case api.Maybe:
		return maybe{t.Of}
	case api.Struct:
		return structure{t.Fields}
	case api.Union:
		return union{t.Of, t.Arms, t.Else}
	}
	return void{}
}

// inRange: may a kind of numbers have n, whether that stands for something or not?
func inRange(k kind, n int) bool {
	switch k.(type) {
	case integer, enum:
		return math.MinInt32 <= n && n <= math.MaxInt32
	case word:
		return 0 <= n && n <= api.MaxWord
	case truth:
		return n == 0 || n == 1
	}
	return true
}

// stands: does a number that is in range stand for something?
func (all kinds) stands(k kind, n int) bool {
	switch k := k.(type) {
	case enum:
		return slices.ContainsFunc(k.members, func(m api.Member) bool { return m.Number == n })
	case union:
		_, is := k.arm(n)
		return is && all.stands(all[k.of], n)
	}
	return true
}

// arm is the place of the type that a union's Item has with a number.
func (k union) arm(n int) (int, bool) {
	for _, a := range k.arms {
		if slices.Contains(a.Cases, n) {
			return a.Type, true
		}
	}
	if k.other < 0 {
		return 0, false
	}
	return k.arms[k.other].Type, true
}

// typeOfPart is the place of the type of the i-th part of a value v, of which only the Int is asked.
func typeOfPart(k kind, v api.Value, i int) int {
	place := 0
	switch k := k.(type) {
	case array:
		place = k.of
	case list:
		place = k.of
	case maybe:
		place = k.of
	case structure:
		place = k.fields[i].Type
	case union:
		place, _ = k.arm(v.Int)
	}
	return place
}

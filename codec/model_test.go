package codec_test

import (
	"math"
	"math/rand"
	"slices"
	"strconv"

	"callbox/api"
	"callbox/codec"
)

// modelCode tells L1's words once more: first operations that name types by their places, then the places are laid over.
func modelCode(x api.Schema) api.Code {
	var others []ops
	for _, t := range x.Types[8:] {
		others = append(others, modelOps(t))
	}
	return made(others...)
}

func modelOps(t api.Type) ops {
	switch t.Kind {
	case api.Enum:
		numbers := make([]int, len(t.Members))
		for i := range numbers {
			numbers[i] = t.Members[i].Number
		}
		return enum(numbers...)
	case api.Fixed:
		return fixed(t.Size)
	case api.Opaque:
		return opaque(t.Size)
	case api.String:
		return text(t.Size)
	case api.Array:
		return array(t.Size, t.Of)
	case api.List:
		return list(t.Size, t.Of)
	case api.Maybe:
		return maybe(t.Of)
	case api.Struct:
		places := make([]int, len(t.Fields))
		for i := range places {
			places[i] = t.Fields[i].Type
		}
		return structure(places...)
	}
	otherwise := -1
	if t.Else != -1 {
		otherwise = t.Arms[t.Else].Type
	}
	var turns []int
	for _, a := range t.Arms {
		for _, n := range a.Cases {
			turns = append(turns, n, a.Type)
		}
	}
	return union(t.Of, otherwise, turns...)
}

// judge tells L2's list once more: it notes which of its clauses a code breaks.
type judge struct {
	c      api.Code
	types  []ops // without their OpEnd
	broken map[string]bool
}

func (j *judge) note(clause string, holds bool) {
	if !holds {
		j.broken[clause] = true
	}
}

func broken(c api.Code) map[string]bool {
	j := &judge{c: c, broken: map[string]bool{}}
	j.note("8 to 400 entries", len(c.Entries) >= 8 && len(c.Entries) <= 400)
	j.cut()
	if len(j.broken) > 0 {
		return j.broken
	}
	for i, one := range j.types {
		j.note("the first eight", i >= 8 || len(one) == 1 && one[0].Code == i+1)
		if i >= 8 {
			j.other(one)
		}
		for _, op := range one {
			j.zero(op)
			j.names(op)
		}
	}
	if len(j.broken) == 0 {
		j.least()
	}
	return j.broken
}

// cut parts the operations at each OpEnd.
func (j *judge) cut() {
	var one ops
	var places []int
	for i, op := range j.c.Ops {
		if len(one) == 0 {
			places = append(places, i)
		}
		if op.Code != api.OpEnd {
			one = append(one, op)
			continue
		}
		j.note("ends have nothing", op.A == 0 && op.B == 0 && len(op.T) == 0)
		j.note("something ahead of an end", len(one) > 0)
		j.types = append(j.types, one)
		one = nil
	}
	j.note("the last end", len(one) == 0)
	j.note("entries are places", slices.Equal(places, j.c.Entries))
}

// other looks at the operations of a type that is not always there.
func (j *judge) other(one ops) {
	head := one[0]
	j.note("other kinds", head.Code >= api.OpEnum && head.Code <= api.OpUnion && head.Code != api.OpCall)
	if head.Code != api.OpStruct {
		j.note("one operation", len(one) == 1)
	} else {
		j.note("as many fields", head.A == len(one)-1)
		for _, op := range one[1:] {
			j.note("fields", op.Code >= api.OpInt && op.Code <= api.OpBool || op.Code == api.OpCall)
		}
	}
	switch head.Code {
	case api.OpEnum:
		j.note("how many numbers", len(head.T) >= 1 && len(head.T) <= 64)
		j.note("numbers unlike", unlike(head.T))
		for _, n := range head.T {
			j.note("numbers' range", n >= math.MinInt32 && n <= math.MaxInt32)
		}
	case api.OpFixed, api.OpArray:
		j.note("a size of 1 to 1000", head.A >= 1 && head.A <= 1000)
	case api.OpOpaque, api.OpString, api.OpList:
		j.note("a size that is a word", head.A >= 0 && head.A <= 1<<32-1)
	case api.OpStruct:
		j.note("1 to 64 fields", head.A >= 1 && head.A <= 64)
	case api.OpUnion:
		j.union(head)
	}
}

func unlike(numbers []int) bool {
	numbers = slices.Sorted(slices.Values(numbers))
	return len(slices.Compact(slices.Clone(numbers))) == len(numbers)
}

// zero: what an operation has not.
func (j *judge) zero(op api.Op) {
	switch op.Code {
	case api.OpFixed, api.OpOpaque, api.OpString, api.OpArray, api.OpList, api.OpStruct, api.OpUnion:
	default:
		j.note("no A", op.A == 0)
	}
	switch op.Code {
	case api.OpArray, api.OpList, api.OpMaybe, api.OpCall, api.OpUnion:
	default:
		j.note("no B", op.B == 0)
	}
	if op.Code != api.OpEnum && op.Code != api.OpUnion {
		j.note("no T", len(op.T) == 0)
	}
}

// names looks at the entries that an operation names.
func (j *judge) names(op api.Op) {
	is := func(entry int) bool { return slices.Contains(j.c.Entries, entry) }
	switch op.Code {
	case api.OpArray, api.OpList, api.OpMaybe, api.OpCall:
		j.note("B is an entry", is(op.B))
		j.note("not of nothing", op.B != 0)
	case api.OpUnion:
		j.note("a union's B is an entry", is(op.B))
		j.note("A is an entry", op.A == -1 || is(op.A))
		for i := 1; i < len(op.T); i += 2 {
			j.note("T has entries", is(op.T[i]))
		}
	}
	if op.Code == api.OpCall {
		j.note("no call of the first eight", op.B == 0 || op.B >= 16 || op.B%2 != 0)
	}
}

func (j *judge) union(op api.Op) {
	j.note("pairs", len(op.T)%2 == 0)
	j.note("one pair at least", len(op.T) >= 2)
	var cases, row []int
	arms := 0
	for i := 0; i+1 < len(op.T); i += 2 {
		cases = append(cases, op.T[i])
		if len(row) > 0 && row[0] != op.T[i+1] {
			arms += (len(row) + 63) / 64
			row = nil
		}
		row = append(row, op.T[i+1])
	}
	arms += (len(row) + 63) / 64
	j.note("64 arms", arms <= 64)
	j.note("cases unlike", unlike(cases))
	of := slices.Index(j.c.Entries, op.B)
	if of < 0 {
		return
	}
	low, high, from := 0, 0, []int(nil)
	switch of := j.types[of][0]; of.Code {
	case api.OpInt:
		low, high = math.MinInt32, math.MaxInt32
	case api.OpUint:
		high = 1<<32 - 1
	case api.OpBool:
		high = 1
	case api.OpEnum:
		low, high, from = math.MinInt, math.MaxInt, of.T
	default:
		j.note("discriminants", false)
		return
	}
	for _, n := range cases {
		j.note("cases are numbers", n >= low && n <= high && (from == nil || slices.Contains(from, n)))
	}
}

// within are the places of the types that a type has within, whatever its value.
func (j *judge) within(one ops) []int {
	var entries []int
	for _, op := range one {
		switch op.Code {
		case api.OpArray, api.OpCall:
			entries = append(entries, op.B)
		case api.OpUnion:
			entries = append(entries, op.B)
			for i := 1; i < len(op.T); i += 2 {
				entries = append(entries, op.T[i])
			}
			if op.A != -1 {
				entries = append(entries, op.A)
			}
		}
	}
	for i := range entries {
		entries[i] = slices.Index(j.c.Entries, entries[i])
	}
	return entries
}

// least measures types, again and again those whose parts are all measured, till no one is left, or none can be.
func (j *judge) least() {
	bytes, deep := make([]int, len(j.types)), make([]int, len(j.types))
	for left := len(j.types); left > 0; {
		before := left
		for i, one := range j.types {
			if deep[i] == 0 && !slices.ContainsFunc(j.within(one), func(part int) bool { return deep[part] == 0 }) {
				bytes[i], deep[i] = j.measure(one, bytes, deep)
				left--
			}
		}
		if left == before {
			j.note("within itself", false)
			return
		}
	}
	j.note("1000 bytes", slices.Max(bytes) <= 1000)
	j.note("a depth of 64", slices.Max(deep) <= 64)
}

func (j *judge) measure(one ops, bytes, deep []int) (int, int) {
	place := func(entry int) int { return slices.Index(j.c.Entries, entry) }
	head := one[0]
	switch head.Code {
	case api.OpVoid:
		return 0, 1
	case api.OpHyper, api.OpUhyper, api.OpDouble:
		return 8, 1
	case api.OpFixed:
		return head.A + (4-head.A%4)%4, 1
	case api.OpArray:
		return min(5000, head.A*bytes[place(head.B)]), 1 + deep[place(head.B)]
	case api.OpUnion:
		return min(5000, 4+bytes[place(head.T[1])]), 1 + deep[place(head.T[1])]
	case api.OpStruct:
		sum, most := 0, 0
		for _, op := range one[1:] {
			at := op.Code - 1
			if op.Code == api.OpCall {
				at = place(op.B)
			}
			sum, most = sum+bytes[at], max(most, deep[at])
		}
		return min(5000, sum), 1 + most
	}
	return 4, 1
}

// back is a schema whose code is c, which is right: its names are of no matter, and so is how cases are parted in arms, where there is a choice.
func back(c api.Code, r *rand.Rand) api.Schema {
	j := &judge{c: c, broken: map[string]bool{}}
	j.cut()
	var x api.Schema
	letter := pick(r, "a", "Q", "z_")
	for i, one := range j.types {
		place := func(entry int) int { return slices.Index(c.Entries, entry) }
		head := one[0]
		t := api.Type{Kind: head.Code - 1}
		switch head.Code {
		case api.OpEnum:
			for k, n := range head.T {
				name := letter + strconv.Itoa(i) + "_" + strconv.Itoa(k)
				x.Names = append(x.Names, api.Named{Name: name, Const: true, Value: n})
				t.Members = append(t.Members, api.Member{Name: name, Number: n})
			}
		case api.OpFixed, api.OpOpaque, api.OpString:
			t.Size = head.A
		case api.OpArray, api.OpList, api.OpMaybe:
			t.Size, t.Of = head.A, place(head.B)
		case api.OpStruct:
			for k, op := range one[1:] {
				at := op.Code - 1
				if op.Code == api.OpCall {
					at = place(op.B)
				}
				t.Fields = append(t.Fields, api.Field{Name: letter + strconv.Itoa(63-k), Type: at})
			}
		case api.OpUnion:
			t = parted(c, head, letter, r)
		}
		x.Types = append(x.Types, t)
	}
	return x
}

// parted is a union whose cases are parted by chance, as long as that leaves no more arms than may be.
func parted(c api.Code, op api.Op, letter string, r *rand.Rand) api.Type {
	t := api.Type{Kind: api.Union, Of: slices.Index(c.Entries, op.B), Else: -1}
	seldom := pick(r, 1, 2, 5)
	for {
		t.Arms = nil
		arm := func(entry int) api.Arm {
			if entry == 0 {
				return api.Arm{}
			}
			return api.Arm{Name: letter + strconv.Itoa(len(t.Arms)), Type: slices.Index(c.Entries, entry)}
		}
		for i := 0; i < len(op.T); i += 2 {
			last := len(t.Arms) - 1
			if last < 0 || op.T[i+1] != op.T[i-1] || len(t.Arms[last].Cases) == 64 || r.Intn(seldom) == 0 {
				t.Arms = append(t.Arms, arm(op.T[i+1]))
				last++
			}
			t.Arms[last].Cases = append(t.Arms[last].Cases, op.T[i])
		}
		if len(t.Arms) > 64 {
			seldom *= 10
			continue
		}
		if op.A != -1 {
			t.Else = len(t.Arms)
			t.Arms = append(t.Arms, arm(op.A))
		}
		return t
	}
}

// plainType is what L4 leaves of a type: no names, and of arms that stand side by side and lead to one type one.
type plainType struct {
	Kind, Size, Of, Else int
	Numbers, Fields      []int
	Cases, Leads         []int
}

func plainTypes(x api.Schema) []plainType {
	var out []plainType
	for _, t := range x.Types {
		p := plainType{Kind: t.Kind, Size: t.Size, Of: t.Of, Else: -1}
		for _, m := range t.Members {
			p.Numbers = append(p.Numbers, m.Number)
		}
		for _, f := range t.Fields {
			p.Fields = append(p.Fields, f.Type)
		}
		for i, a := range t.Arms {
			if t.Else == i {
				p.Else = a.Type
			}
			for _, n := range a.Cases {
				p.Cases, p.Leads = append(p.Cases, n), append(p.Leads, a.Type)
			}
		}
		out = append(out, p)
	}
	return out
}

// wantRight holds Right of a code against the list, and against a schema.
func wantRight(c api.Code, r *rand.Rand) string {
	wrong := broken(c)
	if got := codec.Right(c); got != (len(wrong) == 0) {
		return short(c) + ": " + short(got) + ", broken: " + short(wrong)
	}
	if len(wrong) > 0 {
		return ""
	}
	x := back(c, r)
	if again, e := codec.Lower(x); e != api.OK || !codec.Same(again, c) {
		return short(c) + ": of " + short(x) + ": " + short(again) + ", " + short(e)
	}
	return ""
}

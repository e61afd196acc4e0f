package stub_test

import (
	"fmt"
	"math"
	"math/rand"
	"slices"
	"strconv"

	"callbox/api"
	"callbox/codec"
	"callbox/schema"
)

// short is a thing as text, not too much of it.
func short(thing any) string {
	s := fmt.Sprintf("%+v", thing)
	if len(s) > 3000 {
		return s[:3000] + ".."
	}
	return s
}

// The operations of types, without OpEnd; they name types by their places.
type ops = []api.Op

func enum(numbers ...int) ops   { return ops{{Code: api.OpEnum, T: numbers}} }
func fixed(size int) ops        { return ops{{Code: api.OpFixed, A: size}} }
func opaque(size int) ops       { return ops{{Code: api.OpOpaque, A: size}} }
func text(size int) ops         { return ops{{Code: api.OpString, A: size}} }
func array(size, place int) ops { return ops{{Code: api.OpArray, A: size, B: place}} }
func list(size, place int) ops  { return ops{{Code: api.OpList, A: size, B: place}} }
func maybe(place int) ops       { return ops{{Code: api.OpMaybe, B: place}} }

func structure(places ...int) ops {
	out := ops{{Code: api.OpStruct, A: len(places)}}
	for _, place := range places {
		if place >= 1 && place <= 7 {
			out = append(out, api.Op{Code: api.OpInt + place - 1})
		} else {
			out = append(out, api.Op{Code: api.OpCall, B: place})
		}
	}
	return out
}

// union has cases and places in turns; otherwise is -1, if there is nothing for all others.
func union(of, otherwise int, turns ...int) ops {
	return ops{{Code: api.OpUnion, A: otherwise, B: of, T: turns}}
}

// made is a code of the types that are always there, and of others behind them.
func made(others ...ops) api.Code {
	var all []ops
	for code := api.OpVoid; code <= api.OpBool; code++ {
		all = append(all, ops{{Code: code}})
	}
	all = append(all, others...)
	var c api.Code
	at := 0
	for _, one := range all {
		c.Entries = append(c.Entries, at)
		at += len(one) + 1
	}
	for _, one := range all {
		for _, op := range one {
			c.Ops = append(c.Ops, linked(op, c.Entries))
		}
		c.Ops = append(c.Ops, api.Op{})
	}
	return c
}

// linked is an operation that names entries, where it named places; what is no place stays.
func linked(op api.Op, entries []int) api.Op {
	entryOf := func(place int) int {
		if place < 0 || place >= len(entries) {
			return place
		}
		return entries[place]
	}
	op.T = slices.Clone(op.T)
	switch op.Code {
	case api.OpArray, api.OpList, api.OpMaybe, api.OpCall:
		op.B = entryOf(op.B)
	case api.OpUnion:
		op.A, op.B = entryOf(op.A), entryOf(op.B)
		for i := 1; i < len(op.T); i += 2 {
			op.T[i] = entryOf(op.T[i])
		}
	}
	return op
}

// upTo are n numbers from 0 on.
func upTo(n int) []int {
	var out []int
	for i := range n {
		out = append(out, i)
	}
	return out
}

func pick[T any](r *rand.Rand, list ...T) T { return list[r.Intn(len(list))] }

// maker makes schemas and codes.
type maker struct {
	r *rand.Rand
	x api.Schema
}

// newMaker has a schema that may be.
func newMaker(r *rand.Rand) *maker {
	m := &maker{r: r}
	for {
		m.makeSchema()
		if schema.Right(m.x) {
			return m
		}
	}
}

// code is that of the maker's schema.
func (m *maker) code() api.Code {
	c, _ := codec.Lower(m.x)
	return c
}

func (m *maker) makeSchema() {
	m.x = api.Schema{}
	for kind := range 8 {
		m.x.Types = append(m.x.Types, api.Type{Kind: kind})
	}
	all := 8 + pick(m.r, 0, 1, 2, 3, 5, 8, 12)
	for len(m.x.Types) < all {
		m.x.Types = append(m.x.Types, m.makeType(all))
	}
}

// below is the place of a type that is there already; anywhere is any place.
func (m *maker) below() int { return 1 + m.r.Intn(len(m.x.Types)-1) }

func (m *maker) anywhere(all int) int { return 1 + m.r.Intn(all-1) }

func (m *maker) makeType(all int) api.Type {
	t := api.Type{Kind: api.Enum + m.r.Intn(9)}
	switch t.Kind {
	case api.Enum:
		m.makeMembers(&t)
	case api.Fixed:
		t.Size = pick(m.r, 1, 2, 3, 4, 5, 8, 9, 40, 1000)
	case api.Opaque, api.String:
		t.Size = pick(m.r, 0, 1, 2, 1000, 2000, api.MaxWord)
	case api.Array:
		t.Size, t.Of = pick(m.r, 1, 1, 2, 3, 5, 40), m.below()
	case api.List:
		t.Size, t.Of = pick(m.r, 0, 1, 2, 5, 1000, 2000, api.MaxWord), m.anywhere(all)
	case api.Maybe:
		t.Of = m.anywhere(all)
	case api.Struct:
		for i := range 1 + m.r.Intn(pick(m.r, 1, 4, 4, 4, 64)) {
			place := m.below()
			if m.r.Intn(3) == 0 {
				place = m.anywhere(all)
			}
			t.Fields = append(t.Fields, api.Field{Name: "f" + strconv.Itoa(i), Type: place})
		}
	case api.Union:
		m.makeArms(&t)
	}
	return t
}

// someNumbers are some, all unlike, from a list.
func someNumbers(r *rand.Rand, from []int) []int {
	from = slices.Clone(from)
	r.Shuffle(len(from), func(i, k int) { from[i], from[k] = from[k], from[i] })
	return from[:1+r.Intn(len(from))]
}

func (m *maker) makeMembers(t *api.Type) {
	numbers := someNumbers(m.r, []int{0, 1, 2, -1, 5, math.MinInt32, math.MaxInt32})
	if m.r.Intn(8) == 0 {
		numbers = upTo(pick(m.r, 1, 63, 64))
	}
	for _, n := range numbers {
		name := "M" + strconv.Itoa(len(m.x.Names))
		m.x.Names = append(m.x.Names, api.Named{Name: name, Const: true, Value: n})
		t.Members = append(t.Members, api.Member{Name: name, Number: n})
	}
}

func (m *maker) makeArms(t *api.Type) {
	places := []int{api.Int, api.Uint, api.Bool}
	for at, y := range m.x.Types {
		if y.Kind == api.Enum {
			places = append(places, at, at)
		}
	}
	t.Of, t.Else = pick(m.r, places...), -1
	cases := someNumbers(m.r, m.numbers(m.x.Types[t.Of]))
	for len(cases) > 0 {
		n := min(1+m.r.Intn(len(cases)), pick(m.r, 1, 2, 64))
		t.Arms = append(t.Arms, m.makeArm(t.Arms, cases[:n]))
		cases = cases[n:]
	}
	if m.r.Intn(2) == 0 {
		t.Else = len(t.Arms)
		t.Arms = append(t.Arms, m.makeArm(t.Arms, nil))
	}
}

// makeArm is one behind others, often of the type of the last one.
func (m *maker) makeArm(ahead []api.Arm, cases []int) api.Arm {
	place := 0
	switch m.r.Intn(3) {
	case 0:
		place = m.below()
	case 1:
		if len(ahead) > 0 {
			place = ahead[len(ahead)-1].Type
		}
	}
	if place == 0 {
		return api.Arm{Cases: cases}
	}
	return api.Arm{Cases: cases, Name: "a" + strconv.Itoa(len(ahead)), Type: place}
}

// numbers are some that a type has.
func (m *maker) numbers(t api.Type) []int {
	switch t.Kind {
	case api.Int:
		if m.r.Intn(6) == 0 {
			return upTo(100)
		}
		return []int{0, 1, 2, 7, -1, math.MinInt32, math.MaxInt32}
	case api.Uint:
		return []int{0, 1, 2, 7, math.MaxInt32, math.MaxInt32 + 1, api.MaxWord}
	case api.Bool:
		return []int{0, 1}
	}
	var all []int
	for _, member := range t.Members {
		all = append(all, member.Number)
	}
	return all
}

// aNumber is one that is nearly right, in some place of a code.
func (m *maker) aNumber(c api.Code) int {
	near := pick(m.r, c.Entries...)
	if m.r.Intn(3) > 0 {
		return near
	}
	return pick(m.r, 0, 1, 2, 3, -1, -2, 5, 14, 15, 16, 40, 64, 65, 250, 1000, 1001, near+1, len(c.Ops), math.MaxInt32, math.MaxInt32+1, math.MinInt32, math.MinInt32-1, api.MaxWord, api.MaxWord+1, math.MaxInt, math.MinInt)
}

// heads are the places of those operations that have one of some numbers.
func heads(c api.Code, codes ...int) []int {
	var out []int
	for i, op := range c.Ops {
		if slices.Contains(codes, op.Code) {
			out = append(out, i)
		}
	}
	return out
}

// spoil changes a code in one place.
func (m *maker) spoil(c *api.Code) {
	if len(c.Ops) == 0 || len(c.Entries) == 0 {
		return
	}
	at := m.r.Intn(len(c.Ops))
	if at < 16 && len(c.Ops) > 16 {
		at = pick(m.r, at, 16+m.r.Intn(len(c.Ops)-16))
	}
	op := &c.Ops[at]
	switch m.r.Intn(16) {
	case 0:
		op.Code = pick(m.r, m.r.Intn(21)-1, math.MaxInt, math.MinInt)
	case 1, 2:
		op.A = m.aNumber(*c)
	case 3, 4, 5:
		op.B = m.aNumber(*c)
	case 6, 7:
		m.spoilT(c)
	case 8:
		c.Ops = slices.Delete(slices.Clone(c.Ops), at, at+1)
	case 9:
		c.Ops = slices.Insert(slices.Clone(c.Ops), at, *op)
	case 10:
		c.Ops = append(c.Ops, api.Op{Code: pick(m.r, 0, op.Code)})
	case 11:
		c.Ops = c.Ops[:len(c.Ops)-1]
	case 12:
		c.Entries[m.r.Intn(len(c.Entries))] = m.aNumber(*c)
	case 13:
		i, k := m.r.Intn(len(c.Entries)), m.r.Intn(len(c.Entries))
		c.Entries[i], c.Entries[k] = c.Entries[k], c.Entries[i]
	case 14:
		if m.r.Intn(2) == 0 {
			c.Entries = c.Entries[:len(c.Entries)-1]
		} else {
			c.Entries = append(c.Entries, m.aNumber(*c))
		}
	case 15:
		m.swapHead(c)
	}
}

// swapHead makes of a type one of another kind that has the same parts.
func (m *maker) swapHead(c *api.Code) {
	for _, alike := range [][]int{{api.OpArray, api.OpList}, {api.OpFixed, api.OpOpaque, api.OpString}} {
		if found := heads(*c, alike...); len(found) > 0 {
			c.Ops[pick(m.r, found...)].Code = pick(m.r, alike...)
		}
	}
}

// spoilT changes the numbers of an operation.
func (m *maker) spoilT(c *api.Code) {
	found := heads(*c, api.OpEnum, api.OpUnion, api.OpUnion, pick(m.r, api.OpUnion, api.OpEnd, api.OpCall))
	if len(found) == 0 {
		return
	}
	op := &c.Ops[pick(m.r, found...)]
	op.T = slices.Clone(op.T)
	n := len(op.T)
	switch k := m.r.Intn(8); {
	case k == 0 || n == 0:
		op.T = append(op.T, m.aNumber(*c))
	case k == 1:
		op.T = op.T[:n-1]
	case k == 2:
		op.T = append(op.T, m.aNumber(*c), m.aNumber(*c))
	case k == 3:
		op.T = op.T[:max(0, n-2)]
	case k == 4:
		op.T = slices.Repeat(op.T, pick(m.r, 2, 64))
	case k == 5:
		for i := range pick(m.r, 60, 130) {
			op.T = append(op.T, 1000+i, op.T[n-1])
		}
	case k == 6:
		for i := range pick(m.r, 30, 70) {
			op.T = append(op.T, 1000+i, pick(m.r, c.Entries...))
		}
	default:
		op.T[m.r.Intn(n)] = m.aNumber(*c)
	}
}

// anyCode has types whose operations are as the table has them, with numbers that are nearly right.
func (m *maker) anyCode() api.Code {
	all := 8 + m.r.Intn(6)
	place := func() int {
		return pick(m.r, 1+m.r.Intn(all-1), 8+m.r.Intn(max(1, all-8)), 1+m.r.Intn(7), 1+m.r.Intn(7))
	}
	size := func() int { return pick(m.r, 1, 2, 3, 7, 40, 124, 125, 126, 250, 251) }
	var others []ops
	for range all - 8 {
		switch m.r.Intn(9) {
		case 0:
			others = append(others, enum(someNumbers(m.r, []int{0, 1, 2, 3, -1, math.MinInt32, math.MaxInt32, math.MaxInt32 + 1})...))
		case 1:
			others = append(others, fixed(size()))
		case 2:
			others = append(others, opaque(size()))
		case 3:
			others = append(others, text(size()))
		case 4:
			others = append(others, array(size(), place()))
		case 5:
			others = append(others, list(size(), place()))
		case 6:
			others = append(others, maybe(place()))
		case 7:
			var places []int
			for range 1 + m.r.Intn(4) {
				places = append(places, place())
			}
			others = append(others, structure(places...))
		case 8:
			var turns []int
			for _, n := range someNumbers(m.r, []int{0, 1, 2, 3, -1}) {
				turns = append(turns, n, pick(m.r, 0, place()))
			}
			others = append(others, union(pick(m.r, 1, 2, 7, place()), pick(m.r, -1, 0, place()), turns...))
		}
	}
	return made(others...)
}

package engine_test

import (
	"math"
	"math/rand"
	"slices"
	"strconv"
	"strings"

	"callbox/api"
	"callbox/codec"
	"callbox/schema"
)

// maker makes schemas, values and texts.
type maker struct {
	r    *rand.Rand
	x    api.Schema
	c    api.Code // of x
	left int      // how many more values may have parts of their own choice
	full int      // how likely these are, of 10
}

func pick[T any](r *rand.Rand, list ...T) T { return list[r.Intn(len(list))] }

// newMaker has a schema that may be.
func newMaker(r *rand.Rand) *maker {
	m := &maker{r: r}
	for {
		m.makeSchema()
		if schema.Right(m.x) {
			m.c, _ = codec.Lower(m.x)
			return m
		}
	}
}

func (m *maker) makeSchema() {
	m.x = api.Schema{}
	for kind := range 8 {
		m.x.Types = append(m.x.Types, api.Type{Kind: kind})
	}
	all := 9 + m.r.Intn(8)
	for len(m.x.Types) < all {
		m.x.Types = append(m.x.Types, m.makeType(all))
	}
}

// somewhere is the place of a type, seldom of one that is always there.
func (m *maker) somewhere() int {
	if m.r.Intn(5) == 0 {
		return m.r.Intn(8)
	}
	return 8 + m.r.Intn(len(m.x.Types)-8)
}

// below is the place of a type that is there already; anywhere is any place.
func (m *maker) below() int { return 1 + m.r.Intn(len(m.x.Types)-1) }

func (m *maker) anywhere(all int) int { return 1 + m.r.Intn(all-1) }

func (m *maker) makeType(all int) api.Type {
	t := api.Type{Kind: api.Enum + m.r.Intn(9)}
	switch t.Kind {
	case api.Enum:
		m.makeMembers(&t)
	case api.Fixed:
		t.Size = pick(m.r, 1, 2, 3, 4, 5, 8, 9, 40)
	case api.Opaque, api.String:
		t.Size = pick(m.r, 0, 1, 2, 3, 4, 5, 7, 1000, 2000, api.MaxWord)
	case api.Array:
		t.Size, t.Of = pick(m.r, 1, 1, 2, 3, 5), m.below()
	case api.List:
		t.Size, t.Of = pick(m.r, 0, 1, 2, 3, 5, 1000, 2000, api.MaxWord), m.anywhere(all)
	case api.Maybe:
		t.Of = m.anywhere(all)
	case api.Struct:
		for i := range 1 + m.r.Intn(4) {
			place := m.below()
			if m.r.Intn(3) == 0 {
				place = m.anywhere(all)
			}
			t.Fields = append(t.Fields, api.Field{Name: "f" + strconv.Itoa(i), Type: place})
		}
	case api.Union:
		m.makeArms(&t)
	}
	return t
}

// someNumbers are few, all unlike, from a list.
func someNumbers(r *rand.Rand, from []int) []int {
	from = slices.Clone(from)
	r.Shuffle(len(from), func(i, k int) { from[i], from[k] = from[k], from[i] })
	return from[:1+r.Intn(len(from))]
}

func (m *maker) makeMembers(t *api.Type) {
	for _, n := range someNumbers(m.r, []int{0, 1, 2, -1, 5, math.MinInt32, math.MaxInt32}) {
		name := "M" + strconv.Itoa(len(m.x.Names))
		m.x.Names = append(m.x.Names, api.Named{Name: name, Const: true, Value: n})
		t.Members = append(t.Members, api.Member{Name: name, Number: n})
	}
}

func (m *maker) makeArms(t *api.Type) {
	places := []int{api.Int, api.Uint, api.Bool}
	for at, y := range m.x.Types {
		if y.Kind == api.Enum {
			places = append(places, at, at)
		}
	}
	t.Of, t.Else = pick(m.r, places...), -1
	cases := someNumbers(m.r, m.numbers(m.x.Types[t.Of]))
	for len(cases) > 0 {
		n := 1 + m.r.Intn(len(cases))
		t.Arms = append(t.Arms, m.makeArm(len(t.Arms), cases[:n]))
		cases = cases[n:]
	}
	if m.r.Intn(2) == 0 {
		t.Else = len(t.Arms)
		t.Arms = append(t.Arms, m.makeArm(len(t.Arms), nil))
	}
}

func (m *maker) makeArm(nth int, cases []int) api.Arm {
	if m.r.Intn(3) == 0 {
		return api.Arm{Cases: cases}
	}
	return api.Arm{Cases: cases, Name: "a" + strconv.Itoa(nth), Type: m.below()}
}

// numbers are some that a type has.
func (m *maker) numbers(t api.Type) []int {
	switch t.Kind {
	case api.Int:
		return []int{0, 1, 2, 7, -1, math.MinInt32, math.MaxInt32}
	case api.Uint:
		return []int{0, 1, 2, 7, math.MaxInt32, math.MaxInt32 + 1, api.MaxWord}
	case api.Bool:
		return []int{0, 1}
	case api.Enum:
		var all []int
		for _, member := range t.Members {
			all = append(all, member.Number)
		}
		return all
	}
	return []int{0, 1, -1, math.MaxInt, math.MinInt, 1 << 32}
}

// makeValue is a value of a type, but it may be too deep or too long.
func (m *maker) makeValue(t int) api.Value {
	m.left, m.full = pick(m.r, 0, 10, 40, 120, 300), pick(m.r, 3, 5, 9, 10, 10, 10)
	return m.value(t)
}

// some is how many parts there are, if there may be so many.
func (m *maker) some(most int) int {
	if m.left <= 0 || m.r.Intn(10) >= m.full {
		return 0
	}
	m.left--
	most = min(most, pick(m.r, 1, 1, 2, 4, 30, 250))
	if m.full == 10 {
		return most
	}
	return m.r.Intn(most + 1)
}

func (m *maker) value(t int) api.Value {
	y := m.x.Types[t]
	v := api.Value{Kind: y.Kind}
	switch y.Kind {
	case api.Int, api.Uint, api.Hyper, api.Uhyper, api.Bool, api.Enum:
		v.Int = pick(m.r, m.numbers(y)...)
	case api.Float:
		v.Single = math.Float32frombits(pick(m.r, 0, 1<<31, 1, 0x7f800000, 0xff800000, 0x7fc00000, 0x7f812345, m.r.Uint32()))
	case api.Double:
		v.Double = math.Float64frombits(pick(m.r, 0, 1<<63, 1, 0x7ff<<52, 0xfff<<52, 0x7ff8<<48, 0xfff8<<48, m.r.Uint64()))
	case api.Fixed:
		v.Text = m.text(y.Size)
	case api.Opaque, api.String:
		v.Text = m.text(m.r.Intn(min(y.Size, pick(m.r, 3, 9, 9, 200, 1100)) + 1))
	case api.Array, api.List, api.Maybe:
		n := y.Size
		switch y.Kind {
		case api.List:
			n = m.some(y.Size)
		case api.Maybe:
			n = m.some(1)
		}
		for range n {
			v.Items = append(v.Items, m.value(y.Of))
		}
	case api.Struct:
		for _, f := range y.Fields {
			v.Items = append(v.Items, m.value(f.Type))
		}
	case api.Union:
		m.union(y, &v)
	}
	return v
}

// union chooses among the discriminant's numbers that have an arm.
func (m *maker) union(y api.Type, v *api.Value) {
	for {
		v.Int = pick(m.r, m.numbers(m.x.Types[y.Of])...)
		arm := slices.IndexFunc(y.Arms, func(a api.Arm) bool { return slices.Contains(a.Cases, v.Int) })
		if arm < 0 {
			arm = y.Else
		}
		if arm >= 0 {
			v.Items = []api.Value{m.value(y.Arms[arm].Type)}
			return
		}
	}
}

func (m *maker) text(n int) string {
	var b strings.Builder
	for range n {
		b.WriteByte(pick(m.r, 0, 1, 'a', '"', 0x80, 0xff, byte(m.r.Intn(256))))
	}
	return b.String()
}

// bytesOf lays a value down, however long it is, as far as it is one.
func (m *maker) bytesOf(entry int, v api.Value) string {
	l := &model{c: m.c, most: 1 << 30}
	l.tried(func() { l.runForward(m.c.Entries[entry], v, 1) })
	return string(l.out)
}

// copied is a value of new memory.
func copied(v api.Value) api.Value {
	v.Items = slices.Clone(v.Items)
	for i := range v.Items {
		v.Items[i] = copied(v.Items[i])
	}
	return v
}

// nodes are a value and all within.
func nodes(v *api.Value) []*api.Value {
	all := []*api.Value{v}
	for i := range v.Items {
		all = append(all, nodes(&v.Items[i])...)
	}
	return all
}

// spoil changes a value in one place.
func (m *maker) spoil(v *api.Value) {
	all := nodes(v)
	one, other := pick(m.r, all...), pick(m.r, all...)
	switch m.r.Intn(14) {
	case 0:
		one.Kind = m.r.Intn(19) - 1
	case 1, 2, 3, 4:
		one.Int = pick(m.r, 0, 1, 2, 3, 5, 7, -1, -2, math.MaxInt32, math.MaxInt32+1, math.MinInt32, math.MinInt32-1, api.MaxWord, api.MaxWord+1, math.MaxInt, math.MinInt)
	case 5:
		one.Single = pick(m.r, 0, 1, float32(math.Copysign(0, -1)), float32(math.NaN()))
	case 6:
		one.Double = pick(m.r, 0, 1, math.Copysign(0, -1), math.NaN())
	case 7:
		one.Text = pick(m.r, "", "x", one.Text+"\x00", one.Text+one.Text, one.Text[:len(one.Text)/2], strings.Repeat("y", 1001))
	case 8:
		one.Items = append(slices.Clone(one.Items), pick(m.r, api.Value{}, copied(*other), whole(1)))
	case 9:
		if len(one.Items) > 0 {
			one.Items = slices.Delete(slices.Clone(one.Items), 0, 1)
		}
	case 10:
		if len(one.Items) > 1 {
			i, k := m.r.Intn(len(one.Items)), m.r.Intn(len(one.Items))
			one.Items[i], one.Items[k] = one.Items[k], one.Items[i]
		}
	case 11:
		*one = copied(*other)
	case 12:
		if len(one.Items) > 0 {
			one.Items = slices.Repeat(one.Items, pick(m.r, 2, 60, 300))
			*one = copied(*one)
		}
	case 13:
		part := copied(*one)
		for range pick(m.r, 1, 2, 63, 64, 65) {
			part = items(pick(m.r, api.Struct, api.Maybe, api.List), part)
		}
		*one = part
	}
}

// spoilText changes a text in one place.
func (m *maker) spoilText(s string) string {
	words := pick(m.r, "\x00\x00\x00\x00", "\x00\x00\x00\x01", "\x00\x00\x00\x02", "\x00\x00\x00\x05", "\xff\xff\xff\xff", "\x7f\xff\xff\xff", "\x80\x00\x00\x00", "\x7f\xc0\x00\x00", "\x7f\xf8\x00\x00", "\x7f\x80\x00\x01")
	if len(s) < 4 {
		return s + words
	}
	at := m.r.Intn(len(s))
	even := m.r.Intn(len(s)/4) * 4
	switch m.r.Intn(9) {
	case 0:
		return s[:at]
	case 1:
		return s[:even]
	case 2:
		return s + m.text(1+m.r.Intn(5))
	case 3:
		return s[:even] + words + s[even:]
	case 4:
		return s[:even] + s[even+4:]
	case 5:
		return s[:at] + string([]byte{byte(m.r.Intn(256))}) + s[at+1:]
	case 6:
		return s[:at] + "\x01" + s[at+1:]
	case 7:
		return s + strings.Repeat(words, 1+(999-min(len(s), 999))/4)
	}
	return s[:even] + words + s[even+4:]
}

// anyText is of words that many types have.
func (m *maker) anyText() string {
	if m.r.Intn(3) == 0 {
		// Many types go deeper and deeper so.
		return strings.Repeat("\x00\x00\x00\x01", 40+m.r.Intn(211))
	}
	var b strings.Builder
	for range m.r.Intn(pick(m.r, 3, 8, 30, 249)) {
		b.WriteString(pick(m.r, "\x00\x00\x00\x00", "\x00\x00\x00\x01", "\x00\x00\x00\x01", "\x00\x00\x00\x02", "\xff\xff\xff\xff", "ab\x00\x00", m.text(4)))
	}
	return b.String()
}

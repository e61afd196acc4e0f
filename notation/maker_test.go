package notation_test

import (
	"math"
	"math/rand"
	"regexp"
	"slices"
	"strconv"
	"strings"

	"callbox/api"
	"callbox/schema"
)

// maker makes schemas, values and texts.
type maker struct {
	r    *rand.Rand
	x    api.Schema
	wide bool // names are as long as they may be
	left int  // how many more values may have parts of their own choice
	full int  // how likely these are, of 10
}

func pick[T any](r *rand.Rand, list ...T) T { return list[r.Intn(len(list))] }

// newMaker has a schema that may be.
func newMaker(r *rand.Rand) *maker {
	m := &maker{r: r, wide: r.Intn(4) == 0}
	for {
		m.makeSchema()
		if schema.Right(m.x) {
			return m
		}
	}
}

func (m *maker) makeSchema() {
	m.x = api.Schema{}
	for kind := range 8 {
		m.x.Types = append(m.x.Types, api.Type{Kind: kind})
	}
	all := 9 + m.r.Intn(8)
	for len(m.x.Types) < all {
		m.x.Types = append(m.x.Types, m.makeType(all))
	}
	if m.wide {
		m.makeRows()
	}
}

// makeRows are types whose texts are far longer than their bytes, and that have themselves within.
func (m *maker) makeRows() {
	at := len(m.x.Types)
	for i, place := range []int{1 + m.r.Intn(at-1), at, at + 1} {
		m.x.Types = append(m.x.Types, api.Type{Kind: api.Struct, Fields: []api.Field{{Name: m.named("f", i), Type: place}}})
	}
	m.x.Types = append(m.x.Types,
		api.Type{Kind: api.List, Size: pick(m.r, 100, 250, api.MaxWord), Of: at + 2},
		api.Type{Kind: api.Maybe, Of: at + 5},
		api.Type{Kind: api.Struct, Fields: []api.Field{{Name: "f0", Type: 1}, {Name: "f1", Type: at + 4}}})
}

// named is a name with a number in it, which may be the front of another one.
func (m *maker) named(front string, n int) string {
	s := front + strconv.Itoa(n)
	if m.wide {
		return s + strings.Repeat("_", 32-len(s))
	}
	return s + strings.Repeat("1", m.r.Intn(2))
}

// somewhere is the place of a type, seldom of one that is always there.
func (m *maker) somewhere() int {
	if m.r.Intn(5) == 0 {
		return m.r.Intn(8)
	}
	return 8 + m.r.Intn(len(m.x.Types)-8)
}

// below is the place of a type that is there already; anywhere is any place.
func (m *maker) below() int { return 1 + m.r.Intn(len(m.x.Types)-1) }

func (m *maker) anywhere(all int) int { return 1 + m.r.Intn(all-1) }

func (m *maker) makeType(all int) api.Type {
	t := api.Type{Kind: api.Enum + m.r.Intn(9)}
	switch t.Kind {
	case api.Enum:
		m.makeMembers(&t)
	case api.Fixed:
		t.Size = pick(m.r, 1, 2, 3, 4, 5, 8, 9, 40)
	case api.Opaque, api.String:
		t.Size = pick(m.r, 0, 1, 2, 3, 4, 5, 7, 1000, 2000, api.MaxWord)
	case api.Array:
		t.Size, t.Of = pick(m.r, 1, 1, 2, 3, 5), m.below()
	case api.List:
		t.Size, t.Of = pick(m.r, 0, 1, 2, 3, 5, 1000, 2000, api.MaxWord), m.anywhere(all)
	case api.Maybe:
		t.Of = m.anywhere(all)
	case api.Struct:
		for i := range 1 + m.r.Intn(4) {
			place := m.below()
			if m.r.Intn(3) == 0 {
				place = m.anywhere(all)
			}
			t.Fields = append(t.Fields, api.Field{Name: m.named("f", i), Type: place})
		}
	case api.Union:
		m.makeArms(&t)
	}
	return t
}

// someNumbers are few, all unlike, from a list.
func someNumbers(r *rand.Rand, from []int) []int {
	from = slices.Clone(from)
	r.Shuffle(len(from), func(i, k int) { from[i], from[k] = from[k], from[i] })
	return from[:1+r.Intn(len(from))]
}

func (m *maker) makeMembers(t *api.Type) {
	for _, n := range someNumbers(m.r, []int{0, 1, 2, -1, 5, math.MinInt32, math.MaxInt32}) {
		name := pick(m.r, m.named("M", len(m.x.Names)), m.named("M", len(m.x.Names)), "none", "nan", "inf", "False", "e1")
		if slices.ContainsFunc(m.x.Names, func(have api.Named) bool { return have.Name == name }) {
			continue
		}
		m.x.Names = append(m.x.Names, api.Named{Name: name, Const: true, Value: n})
		t.Members = append(t.Members, api.Member{Name: name, Number: n})
	}
}

func (m *maker) makeArms(t *api.Type) {
	places := []int{api.Int, api.Uint, api.Bool}
	for at, y := range m.x.Types {
		if y.Kind == api.Enum && len(y.Members) > 0 {
			places = append(places, at, at)
		}
	}
	t.Of, t.Else = pick(m.r, places...), -1
	cases := someNumbers(m.r, m.numbers(m.x.Types[t.Of]))
	for len(cases) > 0 {
		n := 1 + m.r.Intn(len(cases))
		t.Arms = append(t.Arms, m.makeArm(len(t.Arms), cases[:n]))
		cases = cases[n:]
	}
	if m.r.Intn(2) == 0 {
		t.Else = len(t.Arms)
		t.Arms = append(t.Arms, m.makeArm(len(t.Arms), nil))
	}
}

func (m *maker) makeArm(nth int, cases []int) api.Arm {
	if m.r.Intn(3) == 0 {
		return api.Arm{Cases: cases}
	}
	return api.Arm{Cases: cases, Name: m.named("a", nth), Type: m.below()}
}

// numbers are some that a type has.
func (m *maker) numbers(t api.Type) []int {
	switch t.Kind {
	case api.Int:
		return []int{0, 1, 2, 7, -1, -10, math.MinInt32, math.MaxInt32}
	case api.Uint:
		return []int{0, 1, 2, 7, 100, math.MaxInt32, math.MaxInt32 + 1, api.MaxWord}
	case api.Bool:
		return []int{0, 1}
	case api.Enum:
		var all []int
		for _, member := range t.Members {
			all = append(all, member.Number)
		}
		return all
	}
	return []int{0, 1, -1, -2, math.MaxInt, math.MinInt, math.MinInt + 1, 1 << 32, -1 << 32}
}

// makeValue is a value of a type, but it may be too deep or too long.
func (m *maker) makeValue(t int) api.Value {
	m.left, m.full = pick(m.r, 0, 10, 40, 120, 300), pick(m.r, 3, 5, 9, 10, 10, 10)
	return m.value(t)
}

// some is how many parts there are, if there may be so many.
func (m *maker) some(most int) int {
	if m.left <= 0 || m.r.Intn(10) >= m.full {
		return 0
	}
	m.left--
	most = min(most, pick(m.r, 1, 1, 2, 4, 30, 90, 250))
	if m.full == 10 {
		return most
	}
	return m.r.Intn(most + 1)
}

func (m *maker) value(t int) api.Value {
	y := m.x.Types[t]
	v := api.Value{Kind: y.Kind}
	switch y.Kind {
	case api.Int, api.Uint, api.Hyper, api.Uhyper, api.Bool, api.Enum:
		v.Int = pick(m.r, m.numbers(y)...)
	case api.Float:
		v.Single = math.Float32frombits(pick(m.r, 0, 1<<31, 1, 0x7f800000, 0xff800000, 0x7fc00000, 0x7f812345, m.r.Uint32()))
	case api.Double:
		v.Double = math.Float64frombits(pick(m.r, 0, 1<<63, 1, 0x7ff<<52, 0xfff<<52, 0x7ff8<<48, 0xfff8<<48, m.r.Uint64()))
	case api.Fixed:
		v.Text = m.text(y.Size)
	case api.Opaque, api.String:
		v.Text = m.text(m.r.Intn(min(y.Size, pick(m.r, 3, 9, 9, 200, 1100)) + 1))
	case api.Array, api.List, api.Maybe:
		n := y.Size
		switch y.Kind {
		case api.List:
			n = m.some(y.Size)
		case api.Maybe:
			n = m.some(1)
		}
		for range n {
			v.Items = append(v.Items, m.value(y.Of))
		}
	case api.Struct:
		for _, f := range y.Fields {
			v.Items = append(v.Items, m.value(f.Type))
		}
	case api.Union:
		m.union(y, &v)
	}
	return v
}

// union chooses among the discriminant's numbers that have an arm.
func (m *maker) union(y api.Type, v *api.Value) {
	for {
		v.Int = pick(m.r, m.numbers(m.x.Types[y.Of])...)
		if arm := modelArm(y, v.Int); arm != nil {
			v.Items = []api.Value{m.value(arm.Type)}
			return
		}
	}
}

// text is of bytes, some of which are runes.
func (m *maker) text(n int) string {
	var b strings.Builder
	for b.Len() < n {
		if m.r.Intn(4) == 0 {
			b.WriteString(pick(m.r, "\u00e4", "\u20ac", "\ufffd", "\U0001f600", "\u0001", "\xf0\x9f", "\xe2\x82", "\xc3"))
			continue
		}
		b.WriteByte(pick(m.r, 0, 31, ' ', 'a', '"', '\\', '~', 0x7f, 0x80, 0xff, byte(m.r.Intn(256))))
	}
	return b.String()[:n]
}

// copied is a value of new memory.
func copied(v api.Value) api.Value {
	v.Items = slices.Clone(v.Items)
	for i := range v.Items {
		v.Items[i] = copied(v.Items[i])
	}
	return v
}

// nodes are a value and all within.
func nodes(v *api.Value) []*api.Value {
	all := []*api.Value{v}
	for i := range v.Items {
		all = append(all, nodes(&v.Items[i])...)
	}
	return all
}

// spoil changes a value in one place.
func (m *maker) spoil(v *api.Value) {
	all := nodes(v)
	one, other := pick(m.r, all...), pick(m.r, all...)
	switch m.r.Intn(11) {
	case 0:
		one.Kind = m.r.Intn(19) - 1
	case 1, 2, 3:
		one.Int = pick(m.r, 0, 1, 2, 3, 5, 7, -1, -2, math.MaxInt32, math.MaxInt32+1, math.MinInt32, math.MinInt32-1, api.MaxWord, api.MaxWord+1, math.MaxInt, math.MinInt)
	case 4:
		one.Single = pick(m.r, 0, 1, float32(math.Copysign(0, -1)), float32(math.NaN()))
	case 5:
		one.Double = pick(m.r, 0, 1, math.Copysign(0, -1), math.NaN())
	case 6:
		one.Text = pick(m.r, "", "x", one.Text+"\x00", one.Text+one.Text, one.Text[:len(one.Text)/2], strings.Repeat("y", 1001))
	case 7:
		one.Items = append(slices.Clone(one.Items), pick(m.r, api.Value{}, copied(*other), whole(1)))
	case 8:
		if len(one.Items) > 0 {
			one.Items = slices.Delete(slices.Clone(one.Items), 0, 1)
		}
	case 9:
		*one = copied(*other)
	case 10:
		if len(one.Items) > 0 {
			one.Items = slices.Repeat(one.Items, pick(m.r, 2, 60, 300))
			*one = copied(*one)
		}
	}
}

var someAtoms = regexp.MustCompile(`[A-Za-z0-9_.+-]+`)

// otherAtom is one that some type has, or none.
func (m *maker) otherAtom() string {
	pool := []string{"0", "1", "7", "-1", "-0", "00", "01", "+1", "", "-", "2147483647", "2147483648", "-2147483648", "-2147483649", "4294967295", "4294967296", "9223372036854775807", "9223372036854775808", "-9223372036854775808", "-9223372036854775809", "18446744073709551615", "18446744073709551616", "none", "void", "TRUE", "FALSE", "true", "nan", "inf", "-inf", "0x0p+0", "-0x0p+0", "0x1p+0", "0x1.8p-3", "0x1.0p+0", "0x1p+128", "0x1p-150"}
	for _, n := range m.x.Names {
		pool = append(pool, n.Name)
	}
	return pick(m.r, pool...)
}

// spoilText changes a text in one place.
func (m *maker) spoilText(s string) string {
	if s == "" {
		return m.otherAtom()
	}
	at, to := m.r.Intn(len(s)), m.r.Intn(len(s)+1)
	if to < at {
		at, to = to, at
	}
	mark := pick(m.r, ",", "[", "]", "{", "}", "(", ")", "=", ":", "*", "#", "\"", "\\", " ", "0", "1", "a", "-", "_", `\x`, `\\`, `\"`, `\x00`, `\x41`, "\x00", "\x7f", "\xff", "\u00e4", "00", "A")
	switch m.r.Intn(12) {
	case 0:
		return s[:to]
	case 1:
		return s[:at] + s[to:]
	case 2:
		return s[:at] + s[min(at+1, len(s)):]
	case 3, 4:
		return s[:at] + mark + s[at:]
	case 5, 6:
		return s[:at] + mark + s[min(at+1, len(s)):]
	case 7:
		return s[:to] + s[at:]
	case 8:
		return s + mark
	case 9:
		atoms := someAtoms.FindAllStringIndex(s, -1)
		if atoms == nil {
			return mark + s
		}
		one := pick(m.r, atoms...)
		return s[:one[0]] + m.otherAtom() + s[one[1]:]
	case 10:
		return s[:at] + string([]byte{byte(m.r.Intn(256))}) + s[min(at+1, len(s)):]
	}
	return m.repeated(s)
}

// repeated has one element of a list often.
func (m *maker) repeated(s string) string {
	from := strings.IndexByte(s[m.r.Intn(len(s)):], '[')
	if from < 0 {
		from = strings.IndexByte(s, '[')
	}
	to := strings.IndexAny(s[from+1:], "],")
	if from < 0 || to <= 0 {
		return s + s
	}
	one := s[from+1 : from+1+to]
	return s[:from+1] + strings.Repeat(one+",", pick(m.r, 1, 2, 5, 300, 2000)) + s[from+1:]
}

// anyText is of marks and atoms that many types have.
func (m *maker) anyText() string {
	var b strings.Builder
	for range m.r.Intn(pick(m.r, 3, 8, 30)) {
		b.WriteString(pick(m.r, "[", "]", ",", "*", "{", "}", "(", ")", "=", ":", "#", "\"", "f0", "a0", "none", "void", m.otherAtom(), m.otherAtom()))
	}
	return b.String()
}

// moved is a schema with the same types, and some others, elsewhere, and where each is.
func (m *maker) moved() (api.Schema, []int) {
	more := m.r.Intn(6)
	where := make([]int, len(m.x.Types))
	for i, p := range m.r.Perm(len(m.x.Types) - 8 + more) {
		if i < len(m.x.Types)-8 {
			where[8+i] = 8 + p
		}
	}
	for i := range 8 {
		where[i] = i
	}
	y := api.Schema{Types: slices.Repeat([]api.Type{{Kind: api.Maybe, Of: 1}}, len(m.x.Types)+more)}
	for i := range y.Types[8:] {
		if m.r.Intn(2) == 0 {
			y.Types[8+i] = pick(m.r, api.Type{Kind: api.Fixed, Size: 3}, api.Type{Kind: api.List, Size: 1, Of: 8 + i}, api.Type{Kind: api.Struct, Fields: []api.Field{{Name: "f0", Type: 1}}})
		}
	}
	for i, t := range m.x.Types {
		y.Types[where[i]] = movedType(t, where)
	}
	y.Names = append(y.Names, api.Named{Name: "other", Value: 1 + m.r.Intn(len(y.Types)-1)}, api.Named{Name: "none_such", Const: true, Value: 5})
	y.Names = append(y.Names, m.x.Names...)
	y.Programs = []api.Program{{Name: "P", Number: 1, Versions: []api.Version{{Name: "V", Number: 2, Procs: []api.Proc{{Name: "p", Number: 3, Args: []int{8}, Result: 1}}}}}}
	return y, where
}

func movedType(t api.Type, where []int) api.Type {
	t.Of = where[t.Of]
	t.Fields, t.Arms = slices.Clone(t.Fields), slices.Clone(t.Arms)
	for i := range t.Fields {
		t.Fields[i].Type = where[t.Fields[i].Type]
	}
	for i := range t.Arms {
		t.Arms[i].Type = where[t.Arms[i].Type]
	}
	return t
}

package value_test

import (
	"encoding/binary"
	"fmt"
	"math"
	"strings"

	"callbox/api"
	"callbox/schema"
)

// What follows is the chapter once more, said in another way: by the types themselves, with bytes that are put down and taken by hand; what is wrong is thrown.

type thrown struct{ e api.Errno }

func refuse(wrong bool, e api.Errno) {
	if wrong {
		panic(thrown{e})
	}
}

func catch(e *api.Errno) {
	if r := recover(); r != nil {
		*e = r.(thrown).e
	}
}

func bits32(f float32) uint32 {
	if math.IsNaN(float64(f)) {
		return 0x7fc00000
	}
	return math.Float32bits(f)
}

func bits64(f float64) uint64 {
	if math.IsNaN(f) {
		return 0x7ff8000000000000
	}
	return math.Float64bits(f)
}

type model struct {
	types []api.Type
	out   []byte
	in    []byte
}

func newModel(x api.Schema, t int) *model {
	refuse(!schema.Right(x) || t < 0 || t >= len(x.Types), api.ErrValueSchema)
	return &model{types: x.Types}
}

// modelDepth goes down level by level.
func modelDepth(v api.Value) int {
	depth := 0
	for level := []api.Value{v}; len(level) > 0; depth++ {
		var next []api.Value
		for _, one := range level {
			next = append(next, one.Items...)
		}
		level = next
	}
	return depth
}

// modelEncode is A1 and A3.
func modelEncode(x api.Schema, t int, v api.Value) (s string, e api.Errno) {
	defer catch(&e)
	m := newModel(x, t)
	refuse(modelDepth(v) > 64, api.ErrValueDeep)
	m.lay(t, v)
	refuse(len(m.out) > 1000, api.ErrValueLong)
	return string(m.out), api.OK
}

// printed is all that a value has by itself.
func printed(v api.Value) string {
	return fmt.Sprintf("%d %d %x %x %q %d", v.Kind, v.Int, bits32(v.Single), bits64(v.Double), v.Text, len(v.Items))
}

func (m *model) four(n int) { m.out = binary.BigEndian.AppendUint32(m.out, uint32(n)) }

func (m *model) eight(n uint64) { m.out = binary.BigEndian.AppendUint64(m.out, n) }

func (m *model) padded(s string) {
	m.out = append(m.out, s...)
	for len(m.out)%4 != 0 {
		m.out = append(m.out, 0)
	}
}

// only refuses what has more than those things that a kind has.
func only(v, have api.Value) { refuse(printed(v) != printed(have), api.ErrValueType) }

func notInt(n int) bool { return n != int(int32(n)) }

func (m *model) lay(t int, v api.Value) {
	y := m.types[t]
	size := func(n int) bool { return n == y.Size }
	if y.Kind == api.Opaque || y.Kind == api.String || y.Kind == api.List {
		size = func(n int) bool { return n <= y.Size }
	}
	switch y.Kind {
	case api.Void:
		only(v, api.Value{})
	case api.Int, api.Uint, api.Hyper, api.Uhyper, api.Bool, api.Enum:
		only(v, api.Value{Kind: y.Kind, Int: v.Int})
		m.number(y, v.Int)
	case api.Float:
		only(v, api.Value{Kind: y.Kind, Single: v.Single})
		m.four(int(bits32(v.Single)))
	case api.Double:
		only(v, api.Value{Kind: y.Kind, Double: v.Double})
		m.eight(bits64(v.Double))
	case api.Fixed, api.Opaque, api.String:
		only(v, api.Value{Kind: y.Kind, Text: v.Text})
		refuse(!size(len(v.Text)), api.ErrValueType)
		if y.Kind != api.Fixed {
			m.four(len(v.Text))
		}
		m.padded(v.Text)
	case api.Array, api.List:
		only(v, api.Value{Kind: y.Kind, Items: v.Items})
		refuse(!size(len(v.Items)), api.ErrValueType)
		if y.Kind == api.List {
			m.four(len(v.Items))
		}
		for _, part := range v.Items {
			m.lay(y.Of, part)
		}
	default:
		m.layLast(y, v)
	}
}

func (m *model) layLast(y api.Type, v api.Value) {
	switch y.Kind {
	case api.Maybe:
		only(v, api.Value{Kind: y.Kind, Items: v.Items})
		refuse(len(v.Items) > 1, api.ErrValueType)
		m.four(len(v.Items))
		for _, part := range v.Items {
			m.lay(y.Of, part)
		}
	case api.Struct:
		only(v, api.Value{Kind: y.Kind, Items: v.Items})
		refuse(len(v.Items) != len(y.Fields), api.ErrValueType)
		for i, f := range y.Fields {
			m.lay(f.Type, v.Items[i])
		}
	case api.Union:
		only(v, api.Value{Kind: y.Kind, Int: v.Int, Items: v.Items})
		refuse(len(v.Items) != 1, api.ErrValueType)
		m.number(m.types[y.Of], v.Int)
		m.lay(modelArm(y, v.Int), v.Items[0])
	}
}

// number is a whole number of a type.
func (m *model) number(y api.Type, n int) {
	switch y.Kind {
	case api.Int, api.Enum:
		refuse(notInt(n), api.ErrValueType)
		if y.Kind == api.Enum {
			modelMember(y, n)
		}
		m.four(n)
	case api.Uint:
		refuse(n != int(uint32(n)), api.ErrValueType)
		m.four(n)
	case api.Bool:
		refuse(n>>1 != 0, api.ErrValueType)
		m.four(n)
	default:
		m.eight(uint64(n))
	}
}

func modelMember(y api.Type, n int) {
	numbers := map[int]int{}
	for _, member := range y.Members {
		numbers[member.Number]++
	}
	refuse(numbers[n] == 0, api.ErrValueCase)
}

// modelArm is the type of the arm.
func modelArm(y api.Type, n int) int {
	arms := map[int]int{}
	for i, a := range y.Arms {
		for _, c := range a.Cases {
			arms[c] = i
		}
	}
	i, is := arms[n]
	if !is {
		refuse(y.Else == -1, api.ErrValueCase)
		i = y.Else
	}
	return y.Arms[i].Type
}

// modelDecode is A4.
func modelDecode(x api.Schema, t int, s string) (v api.Value, e api.Errno) {
	defer catch(&e)
	m := newModel(x, t)
	refuse(len(s) > 1000, api.ErrValueLong)
	m.in = []byte(s)
	got := m.read(t, 1)
	refuse(len(m.in) > 0, api.ErrXdrMore)
	return got, api.OK
}

func (m *model) take(n int) []byte {
	refuse(len(m.in) < n, api.ErrXdrShort)
	front := m.in[:n]
	m.in = m.in[n:]
	return front
}

func (m *model) word() int { return int(binary.BigEndian.Uint32(m.take(4))) }

func (m *model) taken(n int) string {
	front := m.take((n + 3) / 4 * 4)
	for _, b := range front[n:] {
		refuse(b != 0, api.ErrXdrPad)
	}
	return string(front[:n])
}

func (m *model) counted(most int) int {
	n := m.word()
	refuse(n > most, api.ErrXdrLong)
	return n
}

func (m *model) readNumber(y api.Type) int {
	switch y.Kind {
	case api.Uint:
		return m.word()
	case api.Bool:
		n := m.word()
		refuse(n > 1, api.ErrXdrBool)
		return n
	case api.Hyper, api.Uhyper:
		return int(binary.BigEndian.Uint64(m.take(8)))
	}
	n := int(int32(m.word()))
	if y.Kind == api.Enum {
		modelMember(y, n)
	}
	return n
}

func (m *model) read(t, depth int) api.Value {
	refuse(depth > 64, api.ErrValueDeep)
	y := m.types[t]
	v := api.Value{Kind: y.Kind}
	some := func(n, of int) {
		for range n {
			v.Items = append(v.Items, m.read(of, depth+1))
		}
	}
	switch y.Kind {
	case api.Int, api.Uint, api.Hyper, api.Uhyper, api.Bool, api.Enum:
		v.Int = m.readNumber(y)
	case api.Float:
		b := uint32(m.word())
		v.Single = math.Float32frombits(b)
		refuse(bits32(v.Single) != b, api.ErrXdrReal)
	case api.Double:
		b := binary.BigEndian.Uint64(m.take(8))
		v.Double = math.Float64frombits(b)
		refuse(bits64(v.Double) != b, api.ErrXdrReal)
	case api.Fixed:
		v.Text = m.taken(y.Size)
	case api.Opaque, api.String:
		v.Text = m.taken(m.counted(y.Size))
	case api.Array:
		some(y.Size, y.Of)
	case api.List:
		some(m.counted(y.Size), y.Of)
	case api.Maybe:
		some(m.readNumber(m.types[api.Bool]), y.Of)
	case api.Struct:
		for _, f := range y.Fields {
			some(1, f.Type)
		}
	case api.Union:
		v.Int = m.readNumber(m.types[y.Of])
		some(1, modelArm(y, v.Int))
	}
	return v
}

// modelLeast is A2.
func modelLeast(x api.Schema, t int) (v api.Value, e api.Errno) {
	defer catch(&e)
	return newModel(x, t).least(t), api.OK
}

func (m *model) least(t int) api.Value {
	y := m.types[t]
	v := api.Value{Kind: y.Kind}
	switch y.Kind {
	case api.Enum:
		v.Int = y.Members[0].Number
	case api.Fixed:
		v.Text = strings.Repeat("\x00", y.Size)
	case api.Array:
		for range y.Size {
			v.Items = append(v.Items, m.least(y.Of))
		}
	case api.Struct:
		for _, f := range y.Fields {
			v.Items = append(v.Items, m.least(f.Type))
		}
	case api.Union:
		v.Int = m.least(y.Of).Int
		for _, a := range y.Arms {
			if len(a.Cases) > 0 {
				v.Int = a.Cases[0]
				break
			}
		}
		v.Items = []api.Value{m.least(modelArm(y, v.Int))}
	}
	return v
}

package engine_test

import (
	"encoding/binary"
	"fmt"
	"math"

	"callbox/api"
	"callbox/codec"
)

// What follows is the chapter once more, said in another way: a code is run without regard to fuel, what is wrong is thrown, and operations are counted. What a fuel makes of that is said of the count alone.

type model struct {
	c    api.Code
	most int
	out  []byte
	in   []byte
	done int // operations
}

type thrown struct{ e api.Errno }

func refuse(wrong bool, e api.Errno) {
	if wrong {
		panic(thrown{e})
	}
}

// tried is what the run of something tells.
func (m *model) tried(run func()) (e api.Errno) {
	defer func() {
		if r := recover(); r != nil {
			e = r.(thrown).e
		}
	}()
	run()
	return api.OK
}

// outcome is what a call comes to, if there is fuel enough.
type outcome struct {
	s     string
	l     []api.Value
	e     api.Errno
	done  int  // operations, up to the end, or to what is wrong
	ahead bool // it is wrong ahead of all operations
}

// with is what it comes to with a fuel: how much is left, and what is wrong.
func (o outcome) with(fuel int) (int, api.Errno) {
	left := max(fuel, 0) - o.done
	switch {
	case o.ahead:
		return 0, o.e
	case left < 0:
		return 0, api.ErrEngineFuel
	case o.e != api.OK:
		return 0, o.e
	}
	return left, api.OK
}

func modelRight(c api.Code, entries []int) bool {
	for _, entry := range entries {
		if entry < 0 || entry >= len(c.Entries) {
			return false
		}
	}
	return codec.Right(c)
}

// modelPack is N3, and N1 of one entry.
func modelPack(c api.Code, entries []int, l []api.Value) outcome {
	if !modelRight(c, entries) {
		return outcome{e: api.ErrEngineCode, ahead: true}
	}
	if len(entries) != len(l) {
		return outcome{e: api.ErrEngineValue, ahead: true}
	}
	m := &model{c: c, most: 1000}
	e := m.tried(func() {
		for i, entry := range entries {
			m.runForward(c.Entries[entry], l[i], 1)
		}
	})
	return outcome{s: string(m.out), e: e, done: m.done}
}

// modelUnpack is N4, and N2 of one entry.
func modelUnpack(c api.Code, entries []int, s string) outcome {
	if !modelRight(c, entries) {
		return outcome{e: api.ErrEngineCode, ahead: true}
	}
	if len(s) > 1000 {
		return outcome{e: api.ErrXdrLong, ahead: true}
	}
	m := &model{c: c, in: []byte(s)}
	var l []api.Value
	e := m.tried(func() {
		for _, entry := range entries {
			l = append(l, m.runBackward(c.Entries[entry], 1))
		}
		refuse(len(m.in) > 0, api.ErrXdrMore)
	})
	return outcome{l: l, e: e, done: m.done}
}

// end goes on from behind an entry's operations: to its OpEnd, which is counted.
func (m *model) end(at int) {
	for m.c.Ops[at].Code != api.OpEnd {
		at++
	}
	m.done++
}

func (m *model) put(b []byte) {
	refuse(len(m.out)+len(b) > m.most, api.ErrXdrLong)
	m.out = append(m.out, b...)
}

func (m *model) four(n int) { m.put(binary.BigEndian.AppendUint32(nil, uint32(n))) }

func (m *model) eight(n uint64) { m.put(binary.BigEndian.AppendUint64(nil, n)) }

// printed is all that a value has by itself.
func printed(v api.Value) string {
	return fmt.Sprintf("%d %d %x %x %q %d", v.Kind, v.Int, bits32(v.Single), bits64(v.Double), v.Text, len(v.Items))
}

// only refuses what has more than those things that a kind has, or not as many as it wants.
func only(v, have api.Value, enough bool) {
	refuse(!enough || printed(v) != printed(have), api.ErrEngineValue)
}

func (m *model) runForward(at int, v api.Value, depth int) {
	refuse(depth > 64, api.ErrEngineDeep)
	m.forward(at, v, depth)
	m.end(at)
}

func (m *model) forward(at int, v api.Value, depth int) {
	m.done++
	op, n := m.c.Ops[at], len(v.Items)
	list := api.Value{Kind: v.Kind, Items: v.Items}
	switch op.Code {
	case api.OpArray:
		list.Kind = api.Array
		only(v, list, n == op.A)
	case api.OpList:
		list.Kind = api.List
		only(v, list, n <= op.A)
		m.four(n)
	case api.OpMaybe:
		list.Kind = api.Maybe
		only(v, list, n <= 1)
		m.four(n)
	case api.OpStruct:
		list.Kind = api.Struct
		only(v, list, n == op.A)
		for i, item := range v.Items {
			refuse(depth == 64, api.ErrEngineDeep)
			m.forward(at+i+1, item, depth+1)
		}
		return
	case api.OpUnion:
		only(v, api.Value{Kind: api.Union, Int: v.Int, Items: v.Items}, n == 1)
		kinds := map[int]int{api.OpInt: api.Int, api.OpUint: api.Uint, api.OpBool: api.Bool, api.OpEnum: api.Enum}
		m.runForward(op.B, api.Value{Kind: kinds[m.c.Ops[op.B].Code], Int: v.Int}, depth)
		m.runForward(modelArm(op, v.Int), v.Items[0], depth+1)
		return
	case api.OpCall:
		m.runForward(op.B, v, depth)
		return
	default:
		m.plain(op, v)
		return
	}
	for _, item := range v.Items {
		m.runForward(op.B, item, depth+1)
	}
}

// modelArm is the arm's entry.
func modelArm(op api.Op, n int) int {
	arms := map[int]int{}
	for i := 0; i+1 < len(op.T); i += 2 {
		arms[op.T[i]] = op.T[i+1]
	}
	arm, is := arms[n]
	if !is {
		refuse(op.A == -1, api.ErrEngineCase)
		arm = op.A
	}
	return arm
}

func isMember(op api.Op, n int) bool {
	members := map[int]int{}
	for _, m := range op.T {
		members[m]++
	}
	return members[n] > 0
}

// plain is of values without parts.
func (m *model) plain(op api.Op, v api.Value) {
	number := func(kind int, may bool) { only(v, num(kind, v.Int), may) }
	bytes := func(kind int, may bool) { only(v, text(kind, v.Text), may) }
	counted := binary.BigEndian.AppendUint32(nil, uint32(len(v.Text)))
	padded := append([]byte(v.Text), make([]byte, -len(v.Text)&3)...)
	switch op.Code {
	case api.OpVoid:
		only(v, api.Value{}, true)
	case api.OpInt:
		number(api.Int, v.Int == int(int32(v.Int)))
		m.four(v.Int)
	case api.OpUint:
		number(api.Uint, v.Int == int(uint32(v.Int)))
		m.four(v.Int)
	case api.OpHyper:
		number(api.Hyper, true)
		m.eight(uint64(v.Int))
	case api.OpUhyper:
		number(api.Uhyper, true)
		m.eight(uint64(v.Int))
	case api.OpFloat:
		only(v, single(v.Single), true)
		m.four(int(bits32(v.Single)))
	case api.OpDouble:
		only(v, double(v.Double), true)
		m.eight(bits64(v.Double))
	case api.OpBool:
		number(api.Bool, v.Int>>1 == 0)
		m.four(v.Int)
	case api.OpEnum:
		number(api.Enum, v.Int == int(int32(v.Int)))
		refuse(!isMember(op, v.Int), api.ErrEngineCase)
		m.four(v.Int)
	case api.OpFixed:
		bytes(api.Fixed, len(v.Text) == op.A)
		m.put(padded)
	case api.OpOpaque:
		bytes(api.Opaque, len(v.Text) <= op.A)
		m.put(append(counted, padded...))
	case api.OpString:
		bytes(api.String, len(v.Text) <= op.A)
		m.put(append(counted, padded...))
	}
}

func (m *model) take(n int) []byte {
	refuse(len(m.in) < n, api.ErrXdrShort)
	front := m.in[:n]
	m.in = m.in[n:]
	return front
}

func (m *model) word() int { return int(binary.BigEndian.Uint32(m.take(4))) }

func (m *model) long() uint64 { return binary.BigEndian.Uint64(m.take(8)) }

func (m *model) taken(n int) string {
	front := m.take((n + 3) / 4 * 4)
	for _, b := range front[n:] {
		refuse(b != 0, api.ErrXdrPad)
	}
	return string(front[:n])
}

func (m *model) counted(most int) int {
	n := m.word()
	refuse(n > most, api.ErrXdrLong)
	return n
}

func (m *model) truth() int {
	n := m.word()
	refuse(n > 1, api.ErrXdrBool)
	return n
}

func (m *model) runBackward(at, depth int) api.Value {
	refuse(depth > 64, api.ErrEngineDeep)
	v := m.backward(at, depth)
	m.end(at)
	return v
}

func (m *model) backward(at, depth int) api.Value {
	m.done++
	op := m.c.Ops[at]
	some := func(kind, n int) api.Value {
		v := api.Value{Kind: kind}
		for range n {
			v.Items = append(v.Items, m.runBackward(op.B, depth+1))
		}
		return v
	}
	switch op.Code {
	case api.OpArray:
		return some(api.Array, op.A)
	case api.OpList:
		return some(api.List, m.counted(op.A))
	case api.OpMaybe:
		return some(api.Maybe, m.truth())
	case api.OpStruct:
		v := api.Value{Kind: api.Struct}
		for i := range op.A {
			refuse(depth == 64, api.ErrEngineDeep)
			v.Items = append(v.Items, m.backward(at+i+1, depth+1))
		}
		return v
	case api.OpUnion:
		n := m.runBackward(op.B, depth).Int
		return choice(n, m.runBackward(modelArm(op, n), depth+1))
	case api.OpCall:
		return m.runBackward(op.B, depth)
	}
	return m.plainBackward(op)
}

func (m *model) plainBackward(op api.Op) api.Value {
	switch op.Code {
	case api.OpInt:
		return whole(int(int32(m.word())))
	case api.OpUint:
		return num(api.Uint, m.word())
	case api.OpHyper:
		return num(api.Hyper, int(m.long()))
	case api.OpUhyper:
		return num(api.Uhyper, int(m.long()))
	case api.OpFloat:
		b := uint32(m.word())
		f := math.Float32frombits(b)
		refuse(bits32(f) != b, api.ErrXdrReal)
		return single(f)
	case api.OpDouble:
		b := m.long()
		f := math.Float64frombits(b)
		refuse(bits64(f) != b, api.ErrXdrReal)
		return double(f)
	case api.OpBool:
		return num(api.Bool, m.truth())
	case api.OpEnum:
		n := int(int32(m.word()))
		refuse(!isMember(op, n), api.ErrEngineCase)
		return num(api.Enum, n)
	case api.OpFixed:
		return text(api.Fixed, m.taken(op.A))
	case api.OpOpaque:
		return text(api.Opaque, m.taken(m.counted(op.A)))
	case api.OpString:
		return text(api.String, m.taken(m.counted(op.A)))
	}
	return api.Value{}
}

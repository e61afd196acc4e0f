package engine_test

import (
	"math/rand"
	"reflect"
	"slices"
	"strings"
	"sync"
	"testing"
	"unsafe"

	"callbox/api"
	"callbox/engine"
)

// span is where a list lies, its spare room too.
type span struct{ from, to uintptr }

// spans are a list of values and all lists within.
func spans(l []api.Value, out []span) []span {
	if cap(l) > 0 {
		from := uintptr(unsafe.Pointer(unsafe.SliceData(l)))
		out = append(out, span{from, from + uintptr(cap(l))*unsafe.Sizeof(api.Value{})})
	}
	for _, v := range l {
		out = spans(v.Items, out)
	}
	return out
}

func shared(all []span) bool {
	slices.SortFunc(all, func(a, b span) int { return int(a.from) - int(b.from) })
	for i := 1; i < len(all); i++ {
		if all[i-1].to > all[i].from {
			return true
		}
	}
	return false
}

// TestNewMemory: no two lists of what comes out share any, in one answer or in two.
func TestNewMemory(t *testing.T) {
	r := rand.New(rand.NewSource(11))
	lists := 0
	for range 2500 {
		m := newMaker(r)
		at := m.somewhere()
		v := m.makeValue(at)
		if s, _, e := engine.Pack(m.c, []int{at, at}, []api.Value{v, v}, plenty); e == api.OK {
			first, _, _ := engine.Unpack(m.c, []int{at, at}, s, plenty)
			second, _, _ := engine.Unpack(m.c, []int{at, at}, s, plenty)
			third, _, _ := engine.Decode(m.c, at, s[:len(s)/2], plenty)
			all := spans(first, spans(second, spans(third.Items, spans(v.Items, nil))))
			lists += len(all)
			if shared(all) {
				t.Fatalf("%s: lists share memory", short(v))
			}
		}
	}
	if lists < 5000 {
		t.Errorf("%d lists", lists)
	}
}

// TestWrittenInto: what comes out may be written into, and later answers are what they were.
func TestWrittenInto(t *testing.T) {
	x, c := coded(t, source)
	at := place(t, x, "shapes")
	want := items(api.List, choice(1, parts(whole(1), whole(2))), choice(1, parts(whole(1), whole(2))))
	s, _, _ := engine.Encode(c, at, want, plenty)
	l, _, e := engine.Unpack(c, []int{at, at}, s+s, plenty)
	if e != api.OK || len(l) != 2 {
		t.Fatal(e)
	}
	l[0].Items[0].Items[0].Items[0].Int = 9
	l[0].Items[1].Items = nil
	if !alike(l[1], want) || alike(l[0], want) {
		t.Error("one part is another one")
	}
	wantDecode(t, c, at, s, plenty, want, plenty-(2+2*8), api.OK)
}

var mark = api.Value{Kind: 77, Text: "spare"}

// roomy are values whose lists have spare room with something in it, they themselves in such a list.
func roomy(l []api.Value) []api.Value {
	out := make([]api.Value, 0, len(l)+2)
	for _, v := range l {
		v.Items = roomy(v.Items)
		out = append(out, v)
	}
	_ = append(out, mark, mark)
	return out
}

func areRoomy(l []api.Value) bool {
	spare := l[:len(l)+2][len(l):]
	if !alike(spare[0], mark) || !alike(spare[1], mark) {
		return false
	}
	return !slices.ContainsFunc(l, func(v api.Value) bool { return !areRoomy(v.Items) })
}

// roomyNumbers are numbers with spare room.
func roomyNumbers(l []int) []int {
	out := append(make([]int, 0, len(l)+2), l...)
	_ = append(out, 7777, 7777)
	return out
}

func isRoomy(l []int) bool { return slices.Equal(l[:len(l)+2][len(l):], []int{7777, 7777}) }

func roomyCode(c api.Code) api.Code {
	y := api.Code{Entries: roomyNumbers(c.Entries), Ops: append(make([]api.Op, 0, len(c.Ops)+1), c.Ops...)}
	_ = append(y.Ops, api.Op{Code: 77})
	for i := range y.Ops {
		y.Ops[i].T = roomyNumbers(y.Ops[i].T)
	}
	return y
}

func isRoomyCode(c api.Code) bool {
	return isRoomy(c.Entries) && c.Ops[:len(c.Ops)+1][len(c.Ops)].Code == 77 &&
		!slices.ContainsFunc(c.Ops, func(op api.Op) bool { return !isRoomy(op.T) })
}

// TestHandedIn: codes, entries and values that are handed in, and their spare room, are not written into.
func TestHandedIn(t *testing.T) {
	r := rand.New(rand.NewSource(12))
	for range 1200 {
		m := newMaker(r)
		at := m.somewhere()
		l := []api.Value{m.makeValue(at), m.makeValue(1)}
		if r.Intn(2) == 0 {
			m.spoil(&l[0])
		}
		c, entries, handed := roomyCode(m.c), roomyNumbers([]int{at, 1}), roomy(l)
		if r.Intn(4) == 0 {
			m.spoilCode(&c)
			c = roomyCode(c)
		}
		before := copiedCode(c)
		for _, fuel := range []int{5, plenty} {
			s, _, _ := engine.Pack(c, entries, handed, fuel)
			engine.Encode(c, at, handed[0], fuel)
			engine.Unpack(c, entries, s, fuel)
			engine.Unpack(c, entries, m.anyText(), fuel)
			engine.Decode(c, at, s, fuel)
		}
		if !allAlike(handed, l) || !areRoomy(handed) {
			t.Fatalf("%s was written into", short(l))
		}
		if !slices.Equal(entries, []int{at, 1}) || !isRoomy(entries) {
			t.Fatalf("the entries were written into: %v", entries)
		}
		if !reflect.DeepEqual(copiedCode(c), before) || !isRoomyCode(c) {
			t.Fatalf("%s was written into", short(before))
		}
	}
}

// TestNotKept: what is written into a code and its values behind a call changes nothing of its answer, nor of the next one.
func TestNotKept(t *testing.T) {
	x, c := coded(t, source)
	at := place(t, x, "byint")
	y := copiedCode(c)
	v := choice(7, whole(4))
	wantBytes(t, y, at, v, "\x00\x00\x00\x07\x00\x00\x00\x04", 6)
	headOf(t, x, &y, "byint").T[2] = 8
	wantNone(t, y, at, v, api.ErrEngineCase, 3)
	wantBytes(t, y, at, choice(8, whole(4)), "\x00\x00\x00\x08\x00\x00\x00\x04", 6)
	wantBytes(t, c, at, v, "\x00\x00\x00\x07\x00\x00\x00\x04", 6)
	v.Items[0].Int = 5
	wantBytes(t, c, at, v, "\x00\x00\x00\x07\x00\x00\x00\x05", 6)
}

// TestSharedParts: one list may stand in several places of a value, and a value in several of a row.
func TestSharedParts(t *testing.T) {
	x, c := coded(t, source)
	point := parts(whole(1), whole(2))
	bytes := "\x00\x00\x00\x01\x00\x00\x00\x02"
	at := place(t, x, "points")
	v := items(api.List, point, point, point)
	wantBytes(t, c, at, v, "\x00\x00\x00\x03"+bytes+bytes+bytes, 2+3*4)
	wantPack(t, c, []int{at, at}, []api.Value{v, v}, plenty, strings.Repeat("\x00\x00\x00\x03"+bytes+bytes+bytes, 2), plenty-2*(2+3*4), api.OK)
}

// TestAtOnce: calls know nothing of one another, whoever calls.
func TestAtOnce(t *testing.T) {
	x, c := coded(t, source)
	var all sync.WaitGroup
	for worker := range 8 {
		all.Go(func() {
			for i := range 100 {
				s := samples[(i*7+worker)%len(samples)]
				at := place(t, x, s.name)
				wantEncode(t, c, at, s.v, s.cost+i, s.want, i, api.OK)
				wantDecode(t, c, at, s.want, s.cost+i, s.v, i, api.OK)
				wantEncode(t, c, place(t, x, "cell"), cells(33), plenty, "", 0, api.ErrEngineDeep)
			}
		})
	}
	all.Wait()
}

package stub_test

import (
	"math/rand"
	"reflect"
	"slices"
	"sync"
	"testing"
	"unsafe"

	"callbox/api"
	"callbox/stub"
)

// span is where a list or a text lies, its spare room too.
type span struct{ from, to uintptr }

func spanOf[T any](list []T, out []span) []span {
	if cap(list) == 0 {
		return out
	}
	from := uintptr(unsafe.Pointer(unsafe.SliceData(list)))
	return append(out, span{from, from + uintptr(cap(list))*unsafe.Sizeof(list[:1][0])})
}

func spanOfText(s string, out []span) []span {
	from := uintptr(unsafe.Pointer(unsafe.StringData(s)))
	return append(out, span{from, from + uintptr(len(s))})
}

// spans are all lists of a code and of names.
func spans(c api.Code, names []api.Named, out []span) []span {
	out = spanOf(c.Ops, spanOf(c.Entries, spanOf(names, out)))
	for _, op := range c.Ops {
		out = spanOf(op.T, out)
	}
	return out
}

func shared(all []span) bool {
	slices.SortFunc(all, func(a, b span) int { return int(a.from) - int(b.from) })
	for i := 1; i < len(all); i++ {
		if all[i-1].to > all[i].from {
			return true
		}
	}
	return false
}

// TestNewMemory: no two lists of what comes out share any, in one answer or in two, nor with what was handed in, nor do the names.
func TestNewMemory(t *testing.T) {
	r := rand.New(rand.NewSource(11))
	lists := 0
	for range 1000 {
		c := newMaker(r).code()
		names := makeNames(r, len(c.Entries))
		s, e := stub.Print(c, names)
		if e != api.OK {
			t.Fatal(e)
		}
		a, l, _, _ := stub.Read(s)
		b, m, _, _ := stub.Read(s)
		all := spans(a, l, spans(b, m, spans(c, names, spanOfText(s, nil))))
		lists += len(all)
		for _, n := range l {
			all = spanOfText(n.Name, all)
		}
		if shared(all) {
			t.Fatalf("%q: lists share memory", s)
		}
	}
	if lists < 8000 {
		t.Errorf("%d lists", lists)
	}
}

// TestNotKept: what was handed in, and what came out, may be changed behind a call.
func TestNotKept(t *testing.T) {
	c, names := compiled(t, everyKind)
	s, _ := stub.Print(c, names)
	a, l, _, _ := stub.Read(s)
	for _, d := range []api.Code{c, a} {
		for i := range d.Ops {
			clear(d.Ops[i].T)
			d.Ops[i].A = 77
		}
		clear(d.Entries)
	}
	clear(names)
	clear(l)
	c, names = compiled(t, everyKind)
	wantSource(t, c, names, everyKindText)
}

// roomy is a list with spare room that has something in it.
func roomy[T any](list []T, mark T) []T {
	out := append(make([]T, 0, len(list)+2), list...)
	_ = append(out, mark, mark)
	return out
}

func isRoomy[T any](list []T, mark T) bool {
	return reflect.DeepEqual(list[:len(list)+2][len(list):], []T{mark, mark})
}

var (
	markOp   = api.Op{Code: 77, A: 78}
	markName = api.Named{Name: "room"}
)

func roomyCode(c api.Code) api.Code {
	c.Ops, c.Entries = roomy(c.Ops, markOp), roomy(c.Entries, 77)
	for i := range c.Ops {
		c.Ops[i].T = roomy(c.Ops[i].T, 77)
	}
	return c
}

func isRoomyCode(c api.Code) bool {
	return isRoomy(c.Ops, markOp) && isRoomy(c.Entries, 77) && !slices.ContainsFunc(c.Ops, func(op api.Op) bool { return !isRoomy(op.T, 77) })
}

// TestHandedIn: codes and names that are handed in, and their spare room, are not written into, and spare room is nothing to the answer.
func TestHandedIn(t *testing.T) {
	r := rand.New(rand.NewSource(12))
	for range 1500 {
		m := newMaker(r)
		c := m.code()
		names := makeNames(r, len(c.Entries))
		if r.Intn(3) == 0 {
			m.spoil(&c)
		}
		if r.Intn(3) == 0 {
			names = spoilNames(r, names, len(c.Entries))
		}
		handed, list := roomyCode(c), roomy(names, markName)
		s, e := stub.Print(handed, list)
		if want, f := stub.Print(bare(c), slices.Clone(names)); s != want || e != f {
			t.Fatalf("%s: another answer", short(c))
		}
		if !isRoomyCode(handed) || !isRoomy(list, markName) || !reflect.DeepEqual(bare(handed), bare(c)) || !slices.Equal(list, names) {
			t.Fatalf("%s %v was written into", short(c), names)
		}
	}
}

// TestOneList: one list may stand in several places of a code.
func TestOneList(t *testing.T) {
	c := made(enum(2, 16), union(1, -1, 0, 0), union(8, -1, 0, 0))
	numbers := []int{2, 16, 16, 2}
	c.Ops[18].T, c.Ops[20].T = numbers, numbers
	wantSource(t, c, nil, "package stub\n"+firstEight+"func t8(x *Run) {\n\tx.Enum(2, 16)\n}\nfunc t9(x *Run) {\n\tx.Union(t1, nil, 2, t8, 16, t1)\n}\nfunc t10(x *Run) {\n\tx.Union(t8, nil, 2, t8, 16, t1)\n}\n")
}

// TestAtOnce: calls know nothing of one another, whoever calls.
func TestAtOnce(t *testing.T) {
	c, names := compiled(t, everyKind)
	var all sync.WaitGroup
	for range 8 {
		all.Go(func() {
			for range 50 {
				wantSource(t, c, names, everyKindText)
				wantLine(t, "cut", everyKindText[:len(everyKindText)-1], 77)
				wantLine(t, "another line", exampleText+"\n", 36)
				wantNoSource(t, "a name", c, []api.Named{{Name: "a", Value: 18}})
			}
		})
	}
	all.Wait()
}

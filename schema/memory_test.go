package schema_test

import (
	"math/rand"
	"reflect"
	"slices"
	"strings"
	"sync"
	"testing"
	"unsafe"

	"callbox/api"
	"callbox/schema"
	"callbox/syntax"
)

// span is where a list lies, its spare room too.
type span struct{ from, to uintptr }

func spanOf[T any](list []T, out []span) []span {
	if cap(list) == 0 {
		return out
	}
	from := uintptr(unsafe.Pointer(unsafe.SliceData(list)))
	return append(out, span{from, from + uintptr(cap(list))*unsafe.Sizeof(list[:1][0])})
}

// spans are all lists of a schema.
func spans(x api.Schema, out []span) []span {
	out = spanOf(x.Types, spanOf(x.Names, spanOf(x.Programs, out)))
	for _, t := range x.Types {
		out = spanOf(t.Members, spanOf(t.Fields, spanOf(t.Arms, out)))
		for _, a := range t.Arms {
			out = spanOf(a.Cases, out)
		}
	}
	for _, p := range x.Programs {
		out = spanOf(p.Versions, out)
		for _, v := range p.Versions {
			out = spanOf(v.Procs, out)
			for _, c := range v.Procs {
				out = spanOf(c.Args, out)
			}
		}
	}
	return out
}

func shared(all []span) bool {
	slices.SortFunc(all, func(a, b span) int { return int(a.from) - int(b.from) })
	for i := 1; i < len(all); i++ {
		if all[i-1].to > all[i].from {
			return true
		}
	}
	return false
}

// TestNewMemory: no two lists of what comes out share any, in one answer or in two.
func TestNewMemory(t *testing.T) {
	r := rand.New(rand.NewSource(12))
	for range 300 {
		s := goodSource + strings.Join(newMaker(r, 0).source(), " ")
		first, e, _ := schema.Compile(s)
		if e != api.OK {
			continue
		}
		second, _, _ := schema.Compile(s)
		if shared(spans(first, spans(second, nil))) {
			t.Fatalf("%s: lists share memory", s)
		}
	}
	x := good(t)
	p, _ := schema.Proc(x, 7, 2, 1)
	q, _ := schema.Proc(x, 7, 2, 1)
	if len(p.Args) != 4 || shared(spanOf(p.Args, spanOf(q.Args, spans(x, nil)))) {
		t.Error("arguments share memory")
	}
	p.Args[0] = 77
	if again, _ := schema.Proc(x, 7, 2, 1); again.Args[0] != 1 || !same(x, good(t)) {
		t.Error("arguments are the schema's")
	}
	// Also of a list that has spare room, or no more than that.
	x.Programs[0].Versions[0].Procs[1].Args = make([]int, 2, 9)
	x.Programs[0].Versions[0].Procs[0].Args = make([]int, 0, 9)
	p, _ = schema.Proc(x, 7, 2, 1)
	q, _ = schema.Proc(x, 7, 2, 0)
	if shared(spanOf(p.Args, spanOf(q.Args, spans(x, nil)))) {
		t.Error("spare room is shared")
	}
}

// roomy is a list with spare room that has something in it.
func roomy[T any](list []T, mark T) []T {
	out := make([]T, 0, len(list)+2)
	out = append(out, list...)
	_ = append(out, mark, mark)
	return out
}

func isRoomy[T any](list []T, mark T) bool {
	all := list[:len(list)+2]
	return reflect.DeepEqual(all[len(list):], []T{mark, mark})
}

func roomyTree(x api.Tree) api.Tree {
	x.Kids = roomy(x.Kids, api.Tree{Kind: 77})
	for i := range x.Kids {
		x.Kids[i] = roomyTree(x.Kids[i])
	}
	return x
}

func isRoomyTree(x api.Tree) bool {
	return isRoomy(x.Kids, api.Tree{Kind: 77}) && !slices.ContainsFunc(x.Kids, func(kid api.Tree) bool { return !isRoomyTree(kid) })
}

// roomySchema is a schema whose lists have spare room with something in it.
func roomySchema(x api.Schema) api.Schema {
	x = copied(x)
	x.Types, x.Names, x.Programs = roomy(x.Types, api.Type{Kind: 77}), roomy(x.Names, typed("room", 77)), roomy(x.Programs, api.Program{Name: "room"})
	for i := range x.Types {
		y := &x.Types[i]
		y.Members, y.Fields, y.Arms = roomy(y.Members, api.Member{Number: 77}), roomy(y.Fields, api.Field{Type: 77}), roomy(y.Arms, api.Arm{Type: 77})
		for k := range y.Arms {
			y.Arms[k].Cases = roomy(y.Arms[k].Cases, 77)
		}
	}
	for _, p := range x.Programs {
		for k := range p.Versions {
			procs := roomy(p.Versions[k].Procs, api.Proc{Number: 77})
			for c := range procs {
				procs[c].Args = roomy(procs[c].Args, 77)
			}
			p.Versions[k].Procs = procs
		}
	}
	return x
}

func isRoomySchema(x api.Schema) bool {
	right := isRoomy(x.Types, api.Type{Kind: 77}) && isRoomy(x.Names, typed("room", 77)) && isRoomy(x.Programs, api.Program{Name: "room"})
	for _, y := range x.Types {
		right = right && isRoomy(y.Members, api.Member{Number: 77}) && isRoomy(y.Fields, api.Field{Type: 77}) && isRoomy(y.Arms, api.Arm{Type: 77})
		for _, a := range y.Arms {
			right = right && isRoomy(a.Cases, 77)
		}
	}
	for _, p := range x.Programs {
		for _, v := range p.Versions {
			right = right && isRoomy(v.Procs, api.Proc{Number: 77})
			for _, c := range v.Procs {
				right = right && isRoomy(c.Args, 77)
			}
		}
	}
	return right
}

// TestNotWrittenInto: trees and schemas that are handed in, and their spare room, stay as they are; nothing of them is kept.
func TestNotWrittenInto(t *testing.T) {
	r := rand.New(rand.NewSource(13))
	for range 1000 {
		tree, e, _ := syntax.Parse(strings.Join(newMaker(r, []int{0, 20}[r.Intn(2)]).source(), " "))
		if e != api.OK {
			continue
		}
		x, y := roomyTree(tree), roomyTree(tree)
		first := resolve(x)
		if !syntax.Same(x, y) || !isRoomyTree(x) {
			t.Fatalf("%v is written into", tree)
		}
		kept := copied(first.x)
		for _, node := range nodes(&x) {
			*node = api.Tree{Kind: 79}
		}
		if !same(first.x, kept) || !first.same(resolve(y)) {
			t.Fatalf("%v is kept", tree)
		}
		if first.e != api.OK {
			continue
		}
		s := first.x
		if r.Intn(2) == 0 && len(s.Types) > 8 && !slices.ContainsFunc(s.Programs, hollow) {
			spoilSchema(&s, r)
		}
		z := roomySchema(s)
		schema.Right(z)
		schema.Find(z, anyNameOf(z, r))
		schema.Proc(z, 1, 1, 1)
		if !same(z, s) || !isRoomySchema(z) {
			t.Fatalf("%v is written into", s)
		}
	}
}

// TestBesideOneAnother: calls at the same time do not disturb one another.
func TestBesideOneAnother(t *testing.T) {
	want := good(t)
	var all sync.WaitGroup
	for range 8 {
		all.Go(func() {
			for range 50 {
				x, e, _ := schema.Compile(goodSource)
				if e != api.OK || !same(x, want) || !schema.Right(want) {
					t.Error("another answer")
				}
				if _, e, at := schema.Compile(goodSource + "struct q { q a; };"); e != api.ErrSchemaLoop || at != len(goodSource)+11 {
					t.Errorf("another fault: %d, %d", e, at)
				}
			}
		})
	}
	all.Wait()
}

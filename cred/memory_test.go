package cred_test

import (
	"math/rand"
	"slices"
	"sync"
	"testing"
	"unsafe"

	"callbox/api"
	"callbox/cred"
)

// span is where a list or a text lies, its spare room too.
type span struct{ from, to uintptr }

func spanOfList(list []int, out []span) []span {
	if cap(list) == 0 {
		return out
	}
	from := uintptr(unsafe.Pointer(unsafe.SliceData(list)))
	return append(out, span{from, from + uintptr(cap(list))*unsafe.Sizeof(0)})
}

func spanOfText(s string, out []span) []span {
	if s == "" {
		return out
	}
	from := uintptr(unsafe.Pointer(unsafe.StringData(s)))
	return append(out, span{from, from + uintptr(len(s))})
}

func spans(s api.Sys, out []span) []span {
	return spanOfText(s.Machine, spanOfList(s.Groups, out))
}

func shared(all []span) bool {
	slices.SortFunc(all, func(a, b span) int { return int(a.from) - int(b.from) })
	for i := 1; i < len(all); i++ {
		if all[i-1].to > all[i].from {
			return true
		}
	}
	return false
}

// TestNewMemory: what comes out shares no memory, in one answer or in two, nor with what was handed in.
func TestNewMemory(t *testing.T) {
	r := rand.New(rand.NewSource(11))
	for range 2000 {
		m := makeMark(r)
		m.Water = 1
		a, _ := cred.PrintMark(m)
		b, _ := cred.PrintMark(m)
		s, _ := cred.PrintSys(m.Sys)
		// All of them are kept until all are there: the memory of one that is gone may be another's, and rightly.
		kept := []api.Sys{m.Sys}
		for range 2 {
			x, e := cred.ParseMark(a)
			y, f := cred.ParseSys(s)
			z, is, _ := cred.Judge(api.Call{Xid: m.Sequence, Cred: a})
			if e != api.OK || f != api.OK || !is {
				t.Fatal(m, e, f)
			}
			kept = append(kept, x.Sys, y, z.Sys)
		}
		all := spanOfText(a.Body, spanOfText(b.Body, spanOfText(s.Body, nil)))
		for _, sys := range kept {
			all = spans(sys, all)
		}
		if shared(all) {
			t.Fatalf("%v: memory is shared", m)
		}
	}
}

// TestNotKept: what was handed in, and what came out, may be changed behind a call.
func TestNotKept(t *testing.T) {
	m := exampleMark()
	a, _ := cred.PrintMark(m)
	s, _ := cred.PrintSys(m.Sys)
	m.Sys.Groups[0] = 77
	x, _ := cred.ParseMark(a)
	y, _ := cred.ParseSys(s)
	z, _, _ := cred.Judge(api.Call{Xid: 9, Cred: a})
	for _, sys := range []api.Sys{x.Sys, y, z.Sys} {
		sys.Groups[0] = 78
	}
	wantJudged(t, "again", api.Call{Xid: 9, Cred: a}, exampleMark())
	wantMark(t, exampleMark(), a.Body)
	wantSys(t, exampleSys(), s.Body)
}

// TestHandedIn: a list that is handed in, and its spare room, is not written into, and spare room is nothing to the answer.
func TestHandedIn(t *testing.T) {
	r := rand.New(rand.NewSource(12))
	for range 5000 {
		m := makeMark(r)
		if r.Intn(3) == 0 {
			m = spoilMark(r, m)
		}
		n := len(m.Sys.Groups)
		room := append(slices.Clone(m.Sys.Groups), 77, 78)
		handed := m
		handed.Sys.Groups = room[:n]
		a, e := cred.PrintMark(handed)
		b, f := cred.PrintSys(handed.Sys)
		if !slices.Equal(room, append(slices.Clone(m.Sys.Groups), 77, 78)) {
			t.Fatalf("%v was written into", m)
		}
		m.Sys.Groups = slices.Clip(slices.Clone(m.Sys.Groups))
		again, g := cred.PrintMark(m)
		who, h := cred.PrintSys(m.Sys)
		if a != again || e != g || b != who || f != h {
			t.Fatalf("%v: another answer", m)
		}
	}
}

// TestAtOnce: calls know nothing of one another, whoever calls.
func TestAtOnce(t *testing.T) {
	m := exampleMark()
	var all sync.WaitGroup
	for range 8 {
		all.Go(func() {
			for range 500 {
				wantMark(t, m, numbers+sysBody)
				wantSys(t, m.Sys, sysBody)
				wantJudged(t, "at once", api.Call{Xid: 9, Cred: markAuth(numbers + sysBody)}, m)
				wantNoSysBody(t, "at once", sysBody[:27])
			}
		})
	}
	all.Wait()
}

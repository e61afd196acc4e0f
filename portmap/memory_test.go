package portmap_test

import (
	"runtime"
	"slices"
	"strings"
	"sync"
	"testing"
	"time"
	"unsafe"
	"weak"

	"callbox/api"
	"callbox/portmap"
	"callbox/service"
)

// spoil writes over all of a list, its spare room too.
func spoil(l []api.Mapping) {
	l = l[:cap(l)]
	for i := range l {
		l[i] = mapping(99, 99, 6, 99)
	}
}

// TestDumpIsNewMemory: whoever writes into a list that came out, or behind it, writes into nothing of the map's, nor of another list.
func TestDumpIsNewMemory(t *testing.T) {
	for n := range 31 {
		m, want := filled(t, n)
		a, b := m.Dump(), m.Dump()
		spoil(a)
		if !slices.Equal(b, want) {
			t.Errorf("of %d: another list is %v", n, b)
		}
		wantDump(t, m, want...)
		room := b[:cap(b)]
		before := slices.Clone(room)
		m.Set(mapping(1, 1, 17, 1))
		m.Set(mapping(1, 2, 17, 1))
		m.Unset(first(want))
		if !slices.Equal(room, before) {
			t.Errorf("of %d: a list that came out is %v, was %v", n, room, before)
		}
	}
}

// first are the program and version of the first one, if there is one.
func first(l []api.Mapping) (int, int) {
	if len(l) == 0 {
		return 0, 0
	}
	return l[0].Prog, l[0].Vers
}

// TestListedIsNewMemory: nor a list of mappings that bytes have said.
func TestListedIsNewMemory(t *testing.T) {
	_, want := filled(t, 9)
	s := laidAll(want)
	a, _ := portmap.Listed(s)
	b, _ := portmap.Listed(s)
	spoil(a)
	if !slices.Equal(b, want) {
		t.Errorf("another list is %v", b)
	}
	wantListed(t, s, want, api.OK)
}

// TestProcsAreNewMemory: nor the procedures of a service.
func TestProcsAreNewMemory(t *testing.T) {
	m := portmap.New()
	a, b := m.Service(), m.Service()
	for i := range a.Procs[:cap(a.Procs)] {
		a.Procs[:cap(a.Procs)][i] = 77
	}
	for _, s := range []service.Service{b, m.Service(), portmap.New().Service()} {
		if !slices.Equal(s.Procs, []int{1, 2, 3, 4}) {
			t.Errorf("%v", s.Procs)
		}
	}
	wantHandle(t, a, 1, laid(mapping(7, 2, 17, 2000)), api.Success, yes)
	wantHandle(t, a, 77, "", api.SystemErr, "")
}

// collected: what p points to goes, once nobody has it.
func collected[T any](p weak.Pointer[T]) bool {
	for range 50 {
		runtime.GC()
		if p.Value() == nil {
			return true
		}
		time.Sleep(time.Millisecond)
	}
	return false
}

// TestBytesAreNotKept: those of a call, and those that are read, go with it.
func TestBytesAreNotKept(t *testing.T) {
	m, l := filled(t, 3)
	s := m.Service()
	var listed []api.Mapping
	for proc := 0; proc <= 5; proc++ {
		p := func() weak.Pointer[byte] {
			args := strings.Clone(laid(mapping(proc, 2, 17, 2000)))
			s.Handle(proc, args)
			return weak.Make(unsafe.StringData(args))
		}()
		if !collected(p) {
			t.Errorf("the arguments of %d are kept", proc)
		}
	}
	p := func() weak.Pointer[byte] {
		results := strings.Clone(laidAll(l))
		listed, _ = portmap.Listed(results)
		return weak.Make(unsafe.StringData(results))
	}()
	if !collected(p) {
		t.Error("the results are kept")
	}
	runtime.KeepAlive(m)
	runtime.KeepAlive(listed)
}

// TestApart: maps know nothing of one another.
func TestApart(t *testing.T) {
	a, b := portmap.New(), portmap.New()
	x, y := mapping(7, 2, 17, 2000), mapping(7, 2, 17, 2001)
	wantSet(t, a, x, true)
	wantDump(t, b)
	wantHandle(t, b.Service(), 1, laid(y), api.Success, yes)
	wantDump(t, a, x)
	wantDump(t, b, y)
	wantUnset(t, a, 7, 2, true)
	wantPort(t, b, 7, 2, 17, 2001)
	wantHandle(t, a.Service(), 4, "", api.Success, no)
}

// TestCopied: a copy of what a pointer leads to goes its own way.
func TestCopied(t *testing.T) {
	for n := range 29 {
		a, l := filled(t, n)
		b := *a
		x, y := mapping(1, 1, 6, 1), mapping(2, 2, 17, 2)
		wantSet(t, a, x, true)
		wantSet(t, &b, y, true)
		wantDump(t, a, append(slices.Clone(l), x)...)
		wantDump(t, &b, append(slices.Clone(l), y)...)
		c := b
		for _, one := range l {
			b.Unset(one.Prog, one.Vers)
		}
		wantDump(t, &b, y)
		wantDump(t, &c, append(slices.Clone(l), y)...)
		wantDump(t, a, append(slices.Clone(l), x)...)
	}
}

// TestEmptyMap: one that New did not make has no mappings.
func TestEmptyMap(t *testing.T) {
	var m portmap.Map
	wantDump(t, &m)
	wantPort(t, &m, 7, 2, 17, 0)
	wantUnset(t, &m, 7, 2, false)
	wantHandle(t, m.Service(), 4, "", api.Success, no)
	wantSet(t, &m, mapping(7, 2, 17, 2000), true)
	wantDump(t, &m, mapping(7, 2, 17, 2000))
}

// wantGoroutines: there are no more than there were. One that has closed its channel may be on its way out yet.
func wantGoroutines(t *testing.T, what string, before int) {
	t.Helper()
	for range 1000 {
		if runtime.NumGoroutine() <= before {
			return
		}
		time.Sleep(time.Millisecond)
	}
	t.Errorf("%s: %d goroutines, not %d", what, runtime.NumGoroutine(), before)
}

// TestGoroutinesEnd: those that a call starts have ended when it answers, wherever that has found what it was asked for.
func TestGoroutinesEnd(t *testing.T) {
	before := runtime.NumGoroutine()
	for n := range 31 {
		m, l := filled(t, n)
		s := m.Service()
		for _, x := range append(l, mapping(1, 1, 6, 1)) {
			m.Port(x.Prog, x.Vers, x.Prot)
			m.Set(x)
			m.Dump()
			m.Unset(x.Prog, x.Vers)
			m.Unset(x.Prog, x.Vers)
			for proc := 1; n%10 == 0 && proc <= 4; proc++ {
				s.Handle(proc, laid(x))
				s.Handle(proc, "")
			}
		}
		portmap.Args(mapping(7, 2, 17, n))
		portmap.Heard(yes)
		portmap.Listed(laidAll(l))
		wantGoroutines(t, "a map", before)
	}
}

// TestAtOnce: maps that have no part in common may be used at the same time.
func TestAtOnce(t *testing.T) {
	var all sync.WaitGroup
	for n := range 8 {
		all.Go(func() {
			m := portmap.New()
			s := m.Service()
			for i := range 40 {
				x := mapping(n, i, 17, 1+i)
				wantHandle(t, s, 1, laid(x), api.Success, yes)
				wantPort(t, m, n, i, 17, 1+i)
				wantHandle(t, s, 4, "", api.Success, laidAll(mappings(x)))
				wantListed(t, laidAll(mappings(x)), mappings(x), api.OK)
				wantUnset(t, m, n, i, true)
			}
		})
	}
	all.Wait()
}

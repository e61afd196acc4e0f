package service_test

import (
	"runtime"
	"slices"
	"strings"
	"sync"
	"testing"
	"time"
	"unsafe"
	"weak"

	"callbox/api"
	"callbox/service"
)

// TestProcsAreNotKept: nor written into, nor their spare room.
func TestProcsAreNotKept(t *testing.T) {
	room := []int{1, 4, 9, 11, 12}
	procs := room[:2]
	r := service.New()
	offer(t, r, 7, 2, echo, procs...)
	if !slices.Equal(room, []int{1, 4, 9, 11, 12}) {
		t.Errorf("written into: %v", room)
	}
	offer(t, r, 7, 3, echo, room[:3]...)
	for i := range room {
		room[i] = 100 + i
	}
	for n, want := range map[int]int{0: api.Success, 1: api.Success, 4: api.Success, 9: api.ProcUnavail, 100: api.ProcUnavail, 101: api.ProcUnavail} {
		wantFound(t, r, 7, 2, n, want, 0, 0)
	}
	wantFound(t, r, 7, 3, 9, api.Success, 0, 0)
	wantFound(t, r, 7, 3, 11, api.ProcUnavail, 0, 0)
	wantRun(t, r, 7, 2, 4, "abcd", api.Success, "abcd")
}

// TestProcsChangedByAHandle: what Find tells changes by Offer alone.
func TestProcsChangedByAHandle(t *testing.T) {
	s := service.Service{Prog: 7, Vers: 2, Procs: []int{1, 4}}
	s.Handle = func(proc int, args string) (int, string) {
		s.Prog, s.Vers, s.Procs[0], s.Handle = 9, 9, 3, nil
		return api.Success, args
	}
	r := service.New()
	wantErrno(t, "Offer", r.Offer(s), api.OK)
	for range 2 {
		wantRun(t, r, 7, 2, 1, "abcd", api.Success, "abcd")
		wantFound(t, r, 7, 2, 3, api.ProcUnavail, 0, 0)
		wantFound(t, r, 9, 9, 3, api.ProgUnavail, 0, 0)
	}
}

// collected: what p points to goes, once nobody has it.
func collected[T any](p weak.Pointer[T]) bool {
	for range 50 {
		runtime.GC()
		if p.Value() == nil {
			return true
		}
		time.Sleep(time.Millisecond)
	}
	return false
}

// TestProcsGo: their memory is not held, not even that of a list with spare room alone.
func TestProcsGo(t *testing.T) {
	r := service.New()
	for n := range 3 {
		p := func() weak.Pointer[[1000]int] {
			room := new([1000]int)
			for i := range room {
				room[i] = i + 1
			}
			offer(t, r, 7, n, echo, room[:n*500]...)
			return weak.Make(room)
		}()
		if !collected(p) {
			t.Errorf("%d procedures are kept", n*500)
		}
	}
	runtime.KeepAlive(r)
}

// TestRefusedGo: nothing of a service that is refused is held.
func TestRefusedGo(t *testing.T) {
	r := offered(t, echo)
	for _, s := range []service.Service{{Prog: 7, Vers: 2}, {Prog: -1}, {Prog: 8, Vers: 1, Procs: []int{2, 1}}} {
		p := func() weak.Pointer[ear] {
			e := &ear{}
			s.Handle = e.handle
			if r.Offer(s) == api.OK {
				t.Error("it was not refused")
			}
			return weak.Make(e)
		}()
		s.Handle = nil
		if !collected(p) {
			t.Errorf("{%d, %d, %v} is kept", s.Prog, s.Vers, s.Procs)
		}
	}
	runtime.KeepAlive(r)
}

// TestResultsAreNewMemory: a Handle that tells a piece of its arguments gives nobody the arguments' memory.
func TestResultsAreNewMemory(t *testing.T) {
	r := offered(t, func(proc int, args string) (int, string) { return api.Success, args[:4*proc] })
	args := strings.Repeat("args", 100)
	for _, proc := range []int{1, 4} {
		_, s := r.Run(7, 2, proc, args)
		if s != args[:4*proc] || unsafe.StringData(s) == unsafe.StringData(args) {
			t.Errorf("%q shares the arguments' memory", s)
		}
	}
}

// TestArgsAreNotKept: a call's bytes go with it.
func TestArgsAreNotKept(t *testing.T) {
	r := offered(t, func(int, string) (int, string) { panic("bang") })
	for _, c := range [][3]int{{7, 2, 1}, {7, 2, 0}, {7, 2, 2}, {8, 2, 1}} {
		p := func() weak.Pointer[byte] {
			args := strings.Repeat("args", 100)
			r.Run(c[0], c[1], c[2], args)
			return weak.Make(unsafe.StringData(args))
		}()
		if !collected(p) {
			t.Errorf("%v: the arguments are kept", c)
		}
	}
	runtime.KeepAlive(r)
}

// TestApart: registries know nothing of one another.
func TestApart(t *testing.T) {
	a, b := &ear{results: "of a"}, &ear{results: "of b"}
	x, y := service.New(), service.New()
	offer(t, x, 7, 2, a.handle, 1)
	wantFound(t, y, 7, 2, 1, api.ProgUnavail, 0, 0)
	offer(t, y, 7, 2, b.handle, 2)
	for n := range 15 {
		offer(t, x, 9, n, a.handle, 1)
	}
	offer(t, y, 7, 9, b.handle)
	wantFound(t, x, 7, 3, 1, api.ProgMismatch, 2, 2)
	wantFound(t, y, 7, 3, 1, api.ProgMismatch, 2, 9)
	wantRun(t, x, 7, 2, 1, "abcd", api.Success, "of a")
	wantRun(t, y, 7, 2, 2, "efgh", api.Success, "of b")
	wantRun(t, y, 7, 2, 1, "efgh", api.ProcUnavail, "")
	wantHeard(t, "the one", a, heard{1, "abcd"})
	wantHeard(t, "the other", b, heard{2, "efgh"})
}

// TestCopied: a copy of what a pointer leads to goes its own way.
func TestCopied(t *testing.T) {
	for had := range 16 {
		x := service.New()
		for n := range had {
			offer(t, x, 7, n, echo, 1)
		}
		y := *x
		a, b := &ear{results: "of a"}, &ear{results: "of b"}
		offer(t, x, 8, 1, a.handle, 1)
		offer(t, &y, 8, 1, b.handle, 2)
		wantRun(t, x, 8, 1, 1, "abcd", api.Success, "of a")
		wantRun(t, x, 8, 1, 2, "abcd", api.ProcUnavail, "")
		wantRun(t, &y, 8, 1, 2, "abcd", api.Success, "of b")
		wantRun(t, &y, 8, 1, 1, "abcd", api.ProcUnavail, "")
	}
}

// TestOneHandleOfTwo: one function value may serve several services.
func TestOneHandleOfTwo(t *testing.T) {
	e := &ear{results: "four"}
	r := offered(t, e.handle)
	wantRun(t, r, 7, 2, 1, "a", api.Success, "four")
	wantRun(t, r, 7, 5, 4, "b", api.Success, "four")
	wantHeard(t, "both", e, heard{1, "a"}, heard{4, "b"})
}

// TestRegistryWithinAHandle: another registry than its own a Handle may call.
func TestRegistryWithinAHandle(t *testing.T) {
	inner := service.New()
	offer(t, inner, 1, 1, func(proc int, args string) (int, string) {
		if args == "bang" {
			panic(args)
		}
		return api.Success, args + args
	}, 1)
	outer := offered(t, func(proc int, args string) (int, string) {
		accept, results := inner.Run(1, 1, proc, args)
		return accept, results + "!!!!"
	})
	wantRun(t, outer, 7, 2, 1, "abcd", api.Success, "abcdabcd!!!!")
	wantRun(t, outer, 7, 2, 1, "bang", api.SystemErr, "")
	wantRun(t, outer, 7, 2, 4, "abcd", api.SystemErr, "") // ProcUnavail is not a Handle's to tell
}

// TestAtOnce: registries that have no part in common may be used at the same time.
func TestAtOnce(t *testing.T) {
	var all sync.WaitGroup
	for n := range 8 {
		all.Go(func() {
			e := &ear{}
			r := service.New()
			for i := range 200 {
				if i < 16 {
					offer(t, r, n, i, e.handle, 1, 2)
				}
				e.results = strings.Repeat("x", 4*(i%9))
				wantRun(t, r, n, i%16, 1+i%2, "args", api.Success, e.results)
			}
		})
	}
	all.Wait()
}

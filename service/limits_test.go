package service_test

import (
	"math"
	"slices"
	"testing"

	"callbox/api"
	"callbox/service"
)

// edges are numbers at, and beside, the least and the greatest word, and far off.
var edges = []int{0, 1, 2, -1, api.MaxWord - 1, api.MaxWord, api.MaxWord + 1, api.MaxWord + 2, 1<<31 - 1, 1 << 31, 1<<33 - 1, -api.MaxWord, math.MaxInt32, math.MinInt32, math.MaxInt, math.MinInt}

func word(n int) bool { return n == int(uint32(n)) }

func form(may bool) api.Errno {
	if may {
		return api.OK
	}
	return api.ErrServiceForm
}

// TestNumbersOfAService is V2's first word: Prog and Vers are words.
func TestNumbersOfAService(t *testing.T) {
	for _, n := range edges {
		r := service.New()
		wantErrno(t, "Prog", r.Offer(service.Service{Prog: n, Vers: 1, Procs: []int{1}, Handle: echo}), form(word(n)))
		wantErrno(t, "Vers", r.Offer(service.Service{Prog: 3, Vers: n, Procs: []int{1}, Handle: echo}), form(word(n)))
		if word(n) {
			wantRun(t, r, n, 1, 1, "abcd", api.Success, "abcd")
			wantRun(t, r, 3, n, 1, "abcd", api.Success, "abcd")
		} else {
			wantFound(t, r, n, 1, 1, api.ProgUnavail, 0, 0)
			wantFound(t, r, 3, n, 1, api.ProgUnavail, 0, 0)
		}
	}
}

// TestProcs is V2's first word: they are words that rise, none of them 0.
func TestProcs(t *testing.T) {
	lists := [][]int{nil, {}}
	for _, a := range edges {
		lists = append(lists, []int{a})
		for _, b := range edges {
			lists = append(lists, []int{a, b})
			for _, c := range edges {
				lists = append(lists, []int{a, b, c})
			}
		}
	}
	seen := map[bool]int{}
	for _, procs := range lists {
		may := slices.IsSorted(procs) && len(slices.Compact(slices.Clone(procs))) == len(procs)
		for _, n := range procs {
			may = may && word(n) && n != 0
		}
		seen[may]++
		r := service.New()
		if e := r.Offer(service.Service{Prog: 7, Vers: 2, Procs: procs, Handle: echo}); e != form(may) {
			t.Fatalf("%v: %d", procs, e)
		}
		for _, n := range edges {
			switch {
			case !may:
				wantFound(t, r, 7, 2, n, api.ProgUnavail, 0, 0)
			case n == 0 || slices.Contains(procs, n):
				wantFound(t, r, 7, 2, n, api.Success, 0, 0)
			default:
				wantFound(t, r, 7, 2, n, api.ProcUnavail, 0, 0)
			}
		}
	}
	if seen[true] < 50 || seen[false] < 50 {
		t.Errorf("%v", seen)
	}
}

// TestManyProcs: there is no bound to how many there are.
func TestManyProcs(t *testing.T) {
	var procs []int
	for n := range 50000 {
		procs = append(procs, 1+2*n)
	}
	r := service.New()
	offer(t, r, 1, 1, echo, procs...)
	for n := range 100000 {
		want := api.Success
		if n > 0 && n%2 == 0 {
			want = api.ProcUnavail
		}
		if a, _, _ := r.Find(1, 1, n); a != want {
			t.Fatalf("%d: %d", n, a)
		}
	}
	procs[40000] = procs[39999]
	wantErrno(t, "one twice", r.Offer(service.Service{Prog: 1, Vers: 2, Procs: procs, Handle: echo}), api.ErrServiceForm)
}

// TestHandleIsThere is V2's first word.
func TestHandleIsThere(t *testing.T) {
	r := service.New()
	wantErrno(t, "nothing", r.Offer(service.Service{}), api.ErrServiceForm)
	wantErrno(t, "no Handle", r.Offer(service.Service{Prog: 1, Vers: 1, Procs: []int{1}}), api.ErrServiceForm)
	wantFound(t, r, 1, 1, 1, api.ProgUnavail, 0, 0)
	wantErrno(t, "zeros", r.Offer(service.Service{Handle: echo}), api.OK)
	wantRun(t, r, 0, 0, 0, "", api.Success, "")
	wantRun(t, r, 0, 0, 1, "", api.ProcUnavail, "")
}

// TestManyServices is V2: sixteen in all, of one program or of several.
func TestManyServices(t *testing.T) {
	for _, programs := range []int{1, 2, 3, 16, 17} {
		r := service.New()
		for n := range 16 {
			offer(t, r, n%programs, n, echo, 1)
		}
		for n := range 16 {
			wantRun(t, r, n%programs, n, 1, "abcd", api.Success, "abcd")
		}
		for range 3 {
			wantErrno(t, "one more", r.Offer(service.Service{Prog: 16, Vers: 16, Handle: echo}), api.ErrServiceMany)
			wantFound(t, r, 16, 16, 0, api.ProgUnavail, 0, 0)
		}
	}
}

// TestErrorsInOrder: Form is told ahead of Twice, and that ahead of Many.
func TestErrorsInOrder(t *testing.T) {
	r := offered(t, echo)
	wantErrno(t, "no Handle, there already", r.Offer(service.Service{Prog: 7, Vers: 2, Procs: []int{1, 4}}), api.ErrServiceForm)
	wantErrno(t, "no procedures, there already", r.Offer(service.Service{Prog: 7, Vers: 2, Procs: []int{0}, Handle: echo}), api.ErrServiceForm)
	wantErrno(t, "there already", r.Offer(service.Service{Prog: 7, Vers: 2, Procs: []int{9}, Handle: echo}), api.ErrServiceTwice)
	for n := range 14 {
		offer(t, r, 9, n, echo)
	}
	wantErrno(t, "full, no Handle", r.Offer(service.Service{Prog: 9, Vers: 14}), api.ErrServiceForm)
	wantErrno(t, "full, no word", r.Offer(service.Service{Prog: -1, Vers: 14, Handle: echo}), api.ErrServiceForm)
	wantErrno(t, "full, there already", r.Offer(service.Service{Prog: 7, Vers: 2, Handle: echo}), api.ErrServiceTwice)
	wantErrno(t, "full, there already, no Handle", r.Offer(service.Service{Prog: 7, Vers: 2}), api.ErrServiceForm)
	wantErrno(t, "full", r.Offer(service.Service{Prog: 9, Vers: 14, Handle: echo}), api.ErrServiceMany)
	wantFound(t, r, 7, 2, 9, api.ProcUnavail, 0, 0)
	wantFound(t, r, 9, 14, 0, api.ProgMismatch, 0, 13)
}

// TestRefusedChangesNothing is V2 and R1: of one that is refused nothing is heard, and the one that is there stays.
func TestRefusedChangesNothing(t *testing.T) {
	first, other := &ear{results: "once"}, &ear{results: "more"}
	r := service.New()
	offer(t, r, 7, 2, first.handle, 1)
	wantErrno(t, "twice", r.Offer(service.Service{Prog: 7, Vers: 2, Procs: []int{1, 2}, Handle: other.handle}), api.ErrServiceTwice)
	wantErrno(t, "form", r.Offer(service.Service{Prog: 8, Vers: 2, Procs: []int{0}, Handle: other.handle}), api.ErrServiceForm)
	wantRun(t, r, 7, 2, 1, "abcd", api.Success, "once")
	wantRun(t, r, 7, 2, 2, "abcd", api.ProcUnavail, "")
	wantRun(t, r, 8, 2, 0, "", api.ProgUnavail, "")
	wantHeard(t, "the first one", first, heard{1, "abcd"})
	wantHeard(t, "the other one", other)
}

// TestOnlyRunCalls is V2's last word.
func TestOnlyRunCalls(t *testing.T) {
	e := &ear{}
	r := offered(t, e.handle)
	for _, n := range edges {
		r.Find(7, 2, n)
		r.Find(7, n, 1)
		r.Find(n, 2, 1)
	}
	wantHeard(t, "Offer and Find", e)
}

// TestVersions is V3: the least and the greatest one of that program, in whatever order they came.
func TestVersions(t *testing.T) {
	for _, versions := range [][]int{{3}, {0}, {api.MaxWord}, {1, 2}, {2, 1}, {5, 9, 7}, {9, 5, 7}, {7, 9, 5}, {0, api.MaxWord}, {api.MaxWord, 4, 0}} {
		r := service.New()
		offer(t, r, 6, 1, echo)
		for _, v := range versions {
			offer(t, r, 7, v, echo, 1)
		}
		offer(t, r, 8, 1000, echo)
		for _, v := range append(edges, 3, 4, 5, 6, 7, 8, 9, 10, 1000) {
			for _, proc := range []int{0, 1, 2, -1} {
				switch {
				case !slices.Contains(versions, v):
					wantFound(t, r, 7, v, proc, api.ProgMismatch, slices.Min(versions), slices.Max(versions))
					wantRun(t, r, 7, v, proc, "", api.ProgMismatch, "")
				case proc == 0 || proc == 1:
					wantFound(t, r, 7, v, proc, api.Success, 0, 0)
				default:
					wantFound(t, r, 7, v, proc, api.ProcUnavail, 0, 0)
				}
			}
		}
	}
}

// TestProceduresOfAVersion: each has its own.
func TestProceduresOfAVersion(t *testing.T) {
	r := service.New()
	offer(t, r, 7, 1, echo, 1, 2)
	offer(t, r, 7, 2, echo, 3)
	offer(t, r, 8, 1, echo)
	for _, c := range [][4]int{{7, 1, 2, api.Success}, {7, 1, 3, api.ProcUnavail}, {7, 2, 3, api.Success}, {7, 2, 2, api.ProcUnavail}, {8, 1, 1, api.ProcUnavail}, {8, 1, 0, api.Success}} {
		wantFound(t, r, c[0], c[1], c[2], c[3], 0, 0)
	}
	for _, n := range edges {
		if n != 0 {
			wantFound(t, r, 8, 1, n, api.ProcUnavail, 0, 0)
		}
	}
}

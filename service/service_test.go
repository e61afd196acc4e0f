package service_test

import (
	"slices"
	"strings"
	"testing"

	"callbox/api"
	"callbox/service"
)

// heard is a call as a Handle was called with it.
type heard struct {
	proc int
	args string
}

// ear is a service's Handle that keeps what it hears, and tells what it is to tell.
type ear struct {
	heard   []heard
	accept  int
	results string
}

func (e *ear) handle(proc int, args string) (int, string) {
	e.heard = append(e.heard, heard{proc, args})
	return e.accept, e.results
}

// echo tells its arguments.
func echo(_ int, args string) (int, string) { return api.Success, args }

func wantErrno(t *testing.T, what string, got, want api.Errno) {
	t.Helper()
	if got != want {
		t.Errorf("%s: %d, not %d", what, got, want)
	}
}

func wantFound(t *testing.T, r *service.Registry, prog, vers, proc, accept, low, high int) {
	t.Helper()
	if a, l, h := r.Find(prog, vers, proc); a != accept || l != low || h != high {
		t.Errorf("Find(%d, %d, %d) = %d, %d, %d, not %d, %d, %d", prog, vers, proc, a, l, h, accept, low, high)
	}
}

func wantRun(t *testing.T, r *service.Registry, prog, vers, proc int, args string, accept int, results string) {
	t.Helper()
	if a, s := r.Run(prog, vers, proc, args); a != accept || s != results {
		t.Errorf("Run(%d, %d, %d, %q) = %d, %q, not %d, %q", prog, vers, proc, args, a, s, accept, results)
	}
}

func wantHeard(t *testing.T, what string, e *ear, want ...heard) {
	t.Helper()
	if !slices.Equal(e.heard, want) {
		t.Errorf("%s: heard was %v, not %v", what, e.heard, want)
	}
}

func offer(t *testing.T, r *service.Registry, prog, vers int, handle func(int, string) (int, string), procs ...int) {
	t.Helper()
	if e := r.Offer(service.Service{Prog: prog, Vers: vers, Procs: procs, Handle: handle}); e != api.OK {
		t.Fatalf("Offer(%d, %d, %v): %d", prog, vers, procs, e)
	}
}

// offered is the registry of the chapter's examples.
func offered(t *testing.T, handle func(int, string) (int, string)) *service.Registry {
	t.Helper()
	r := service.New()
	offer(t, r, 7, 2, handle, 1, 4)
	offer(t, r, 7, 5, handle, 1, 4)
	return r
}

// TestNew is V1.
func TestNew(t *testing.T) {
	r := service.New()
	if r == nil {
		t.Fatal("no registry")
	}
	for _, n := range []int{0, 1, 7, -1, api.MaxWord} {
		wantFound(t, r, n, n, n, api.ProgUnavail, 0, 0)
		wantRun(t, r, n, n, n, "", api.ProgUnavail, "")
		wantRun(t, r, n, n, 0, "abcd", api.ProgUnavail, "")
	}
}

// TestFind is the chapter's first example.
func TestFind(t *testing.T) {
	r := offered(t, echo)
	wantFound(t, r, 7, 2, 4, api.Success, 0, 0)
	wantFound(t, r, 7, 2, 0, api.Success, 0, 0)
	wantFound(t, r, 7, 2, 2, api.ProcUnavail, 0, 0)
	wantFound(t, r, 7, 3, 1, api.ProgMismatch, 2, 5)
	wantFound(t, r, 8, 2, 1, api.ProgUnavail, 0, 0)
}

// TestRunWithoutAHandle is the chapter's second example, and V4's: nothing is called where nothing is found, nor of procedure 0.
func TestRunWithoutAHandle(t *testing.T) {
	e := &ear{results: "four"}
	r := offered(t, e.handle)
	wantRun(t, r, 7, 2, 0, "", api.Success, "")
	wantRun(t, r, 7, 2, 0, "abcd", api.GarbageArgs, "")
	wantRun(t, r, 7, 2, 0, "a", api.GarbageArgs, "")
	wantRun(t, r, 7, 2, 0, "\x00\x00\x00\x00", api.GarbageArgs, "")
	wantRun(t, r, 7, 2, 0, strings.Repeat("a", 5000), api.GarbageArgs, "")
	wantRun(t, r, 7, 3, 1, "", api.ProgMismatch, "")
	wantRun(t, r, 7, 3, 0, "", api.ProgMismatch, "")
	wantRun(t, r, 7, 2, 2, "", api.ProcUnavail, "")
	wantRun(t, r, 7, 2, 2, "abcd", api.ProcUnavail, "")
	wantRun(t, r, 7, 2, -1, "", api.ProcUnavail, "")
	wantRun(t, r, 8, 2, 1, "", api.ProgUnavail, "")
	wantHeard(t, "nothing was to be called", e)
}

// TestOffer is the chapter's third example.
func TestOffer(t *testing.T) {
	r := offered(t, echo)
	for _, c := range []struct {
		vers  int
		procs []int
		f     func(int, string) (int, string)
		e     api.Errno
	}{
		{5, []int{1}, echo, api.ErrServiceTwice},
		{6, []int{0, 1}, echo, api.ErrServiceForm},
		{6, []int{2, 1}, echo, api.ErrServiceForm},
		{6, []int{1}, nil, api.ErrServiceForm},
	} {
		wantErrno(t, "Offer", r.Offer(service.Service{Prog: 7, Vers: c.vers, Procs: c.procs, Handle: c.f}), c.e)
	}
	wantFound(t, r, 7, 6, 1, api.ProgMismatch, 2, 5)
	wantFound(t, r, 7, 5, 4, api.Success, 0, 0)
	wantRun(t, r, 7, 5, 4, "abcd", api.Success, "abcd")
}

// TestWrongHandles is the chapter's fourth example.
func TestWrongHandles(t *testing.T) {
	for what, f := range map[string]func(int, string) (int, string){
		"five bytes": func(int, string) (int, string) { return api.Success, "bytes" },
		"9":          func(int, string) (int, string) { return 9, "" },
		"9, results": func(int, string) (int, string) { return 9, "four" },
		"a panic":    func(int, string) (int, string) { panic("bang") },
	} {
		r := offered(t, f)
		if a, s := r.Run(7, 2, 1, ""); a != api.SystemErr || s != "" {
			t.Errorf("%s: %d, %q", what, a, s)
		}
	}
}

// TestHandleIsCalledOnce is V4 and V5: with the procedure and the arguments, each time, and no other one hears of it.
func TestHandleIsCalledOnce(t *testing.T) {
	r := service.New()
	var ears [4]ear
	for i := range ears {
		ears[i].results = strings.Repeat("r", 4*i)
		offer(t, r, 7+i/2, 2+i%2, ears[i].handle, 1, 4, api.MaxWord)
	}
	want := [4][]heard{}
	for n, args := range []string{"", "a", "\x00", "abcd", "\xff\xfe", strings.Repeat("long", 1000)} {
		for i := range ears {
			for _, proc := range []int{4, 1, api.MaxWord, 4} {
				wantRun(t, r, 7+i/2, 2+i%2, proc, args, api.Success, strings.Repeat("r", 4*i))
				want[i] = append(want[i], heard{proc, args})
				for j := range ears {
					wantHeard(t, "run "+string(rune('0'+n)), &ears[j], want[j]...)
				}
			}
		}
	}
}

// TestWhatAHandleTells is V4's: what is told of what a Handle tells.
func TestWhatAHandleTells(t *testing.T) {
	e := &ear{}
	r := offered(t, e.handle)
	for _, accept := range []int{api.Success, api.ProgUnavail, api.ProgMismatch, api.ProcUnavail, api.GarbageArgs, api.SystemErr, 6, 9, -1, 1 << 32, 1<<32 + 4, -1 << 63, 1<<63 - 1} {
		for _, n := range []int{0, 1, 2, 3, 4, 5, 8, 996, 997, 999, 1000, 1001, 1002, 1003, 1004, 2000, 1 << 16} {
			e.accept, e.results, e.heard = accept, strings.Repeat("x", n), nil
			want, results := api.SystemErr, ""
			switch {
			case accept == api.GarbageArgs:
				want = api.GarbageArgs
			case accept == api.Success && n <= 1000 && n%4 == 0:
				want, results = api.Success, e.results
			}
			wantRun(t, r, 7, 5, 4, "args", want, results)
			wantHeard(t, "called once", e, heard{4, "args"})
		}
	}
}

// TestResultsAreTold: whatever bytes they are.
func TestResultsAreTold(t *testing.T) {
	r := offered(t, echo)
	for _, results := range []string{"\x00\x00\x00\x00", "\xff\xff\xff\xff", "ab\x00c", "\xc3\x28\xa0\xa1", "é€", strings.Repeat("\x00\x01\x02\xff", 250)} {
		if len(results)%4 != 0 {
			results += strings.Repeat("-", 4-len(results)%4)
		}
		wantRun(t, r, 7, 2, 1, results, api.Success, results)
	}
}

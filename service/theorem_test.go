package service_test

import (
	"math/rand"
	"testing"

	"callbox/api"
)

// wantAsTable plays steps with a registry and with a table.
func wantAsTable(t *testing.T, steps []step) {
	t.Helper()
	p := newPair()
	for i, s := range steps {
		if wrong := p.play(s); wrong != "" {
			t.Fatalf("at the step %d of %v: %s", i, steps, wrong)
		}
	}
}

// TestAllShortRuns is V2 to V5: whatever four steps there are, of two programs, two versions and two procedures.
func TestAllShortRuns(t *testing.T) {
	var each []step
	for prog := 1; prog <= 2; prog++ {
		for vers := 1; vers <= 2; vers++ {
			each = append(each, step{offers: true, prog: prog, vers: vers, procs: []int{vers, 3}})
			each = append(each, step{prog: prog, vers: vers, proc: 1, args: "x", tells: tells{results: "four"}})
		}
		each = append(each, step{offers: true, prog: prog, vers: 1})
		each = append(each, step{prog: prog, vers: 2, proc: 3, tells: tells{panics: true}})
		each = append(each, step{prog: prog, vers: 1})
	}
	each = append(each, step{offers: true, prog: 1, vers: 3, procs: []int{1}, noHandle: true}, step{prog: 1, vers: 3, proc: 1})
	var run func(steps []step, left int)
	run = func(steps []step, left int) {
		if left == 0 {
			wantAsTable(t, steps)
			return
		}
		for _, s := range each {
			run(append(steps, s), left-1)
		}
	}
	run(make([]step, 0, 4), 4)
}

func pick(r *rand.Rand, numbers ...int) int { return numbers[r.Intn(len(numbers))] }

func makeProcs(r *rand.Rand) []int {
	var procs []int
	n := 0
	for range r.Intn(5) {
		n += pick(r, 1, 1, 1, 2, 3, 1<<32-5)
		if r.Intn(40) == 0 {
			n = pick(r, 0, -1, n-1, n-2, 1<<32-1, 1<<32)
		}
		procs = append(procs, n)
	}
	return procs
}

// makeStep is mostly of few programs and versions.
func makeStep(r *rand.Rand, programs, versions int) step {
	s := step{offers: r.Intn(4) == 0, prog: r.Intn(programs), vers: r.Intn(versions)}
	switch r.Intn(40) {
	case 0:
		s.prog = pick(r, edges...)
	case 1:
		s.vers = pick(r, edges...)
	}
	if s.offers {
		s.procs, s.noHandle = makeProcs(r), r.Intn(20) == 0
		return s
	}
	s.proc = pick(r, 0, 1, 1, 2, 2, 3, 4, 5, -1, 1<<32-1, 1<<32)
	s.args = bytesOf(pick(r, 0, 0, 1, 4, 1000, 1004))
	s.tells.panics = r.Intn(6) == 0
	s.tells.accept = pick(r, 0, 0, 0, 0, 0, 0, 1, 2, 3, 4, 5, 6, 9, -1)
	s.tells.results = bytesOf(pick(r, 0, 4, 8, 996, 1000, 1004, 1, 2, 3, 1001))
	return s
}

func makeRun(r *rand.Rand) []step {
	programs, versions := 1+r.Intn(5), 1+r.Intn(8)
	var steps []step
	for range 150 {
		steps = append(steps, makeStep(r, programs, versions))
	}
	return steps
}

// TestLongRuns is V2 to V5: after each of many steps, what a table of all procedures says.
func TestLongRuns(t *testing.T) {
	r := rand.New(rand.NewSource(18))
	for range 200 {
		wantAsTable(t, makeRun(r))
	}
}

// TestRunsSeeAll: runs as those above come to whatever may be told, often.
func TestRunsSeeAll(t *testing.T) {
	r := rand.New(rand.NewSource(19))
	seen := map[int]int{}
	for range 100 {
		p := newPair()
		for _, s := range makeRun(r) {
			p.tells = s.tells
			if s.offers {
				seen[int(p.table.offer(s))]++
			} else {
				accept, _, calls := p.table.run(s)
				seen[1000+10*accept+len(calls)]++
			}
		}
	}
	for _, kind := range []int{0, int(api.ErrServiceForm), int(api.ErrServiceTwice), int(api.ErrServiceMany), 1000, 1001, 1010, 1020, 1030, 1040, 1041, 1051} {
		if seen[kind] < 50 {
			t.Errorf("%d is seen %d times only", kind, seen[kind])
		}
	}
}

// FuzzSteps takes four bytes for each step: what it does, and the program; the version; the procedure, or the first two of several; what is told, or the third one.
func FuzzSteps(f *testing.F) {
	f.Add("\x01\x02\x14\x00" + "\x00\x02\x01\x04" + "\x00\x02\x04\x05" + "\x00\x03\x01\x00" + "\x01\x02\x01\x00")
	f.Add("\x03\x01\x01\x02" + "\x05\x00\x21\x02" + "\x02\x01\x02\x0b" + "\x08\x00\x00\x00")
	f.Fuzz(func(t *testing.T, text string) {
		var steps []step
		for i := 0; i+3 < len(text) && len(steps) < 60; i += 4 {
			a, b := int(text[i+2]), int(int8(text[i+3]))
			s := step{offers: text[i]&1 == 1, prog: int(text[i]>>1&7) - 1, vers: int(int8(text[i+1])), proc: a & 15}
			if s.offers {
				s.procs, s.noHandle = []int{a & 15, a >> 4, b}[:2+b&1], b == 9
			} else {
				s.args = bytesOf(a >> 6)
				s.tells = tells{panics: b&7 == 7, accept: b >> 4, results: bytesOf(b & 7 * 4)}
			}
			steps = append(steps, s)
		}
		wantAsTable(t, steps)
	})
}

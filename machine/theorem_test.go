package machine_test

import (
	"math/rand"
	"slices"
	"testing"

	"callbox/api"
	"callbox/machine"
	"callbox/service"
)

// wantAsModel holds New and Step against the model, of some states and calls.
func wantAsModel(t *testing.T, m *maker, x api.Schema, prog, vers int, y api.Table, seen map[int]int) {
	t.Helper()
	want := refusal(x, prog, vers, y)
	n, e := machine.New(x, prog, vers, y)
	if e != want || (n != nil) != (want == api.OK) {
		t.Fatalf("New: %d, not %d, of %v", e, want, y)
	}
	if n != nil && n.State() != y.Start {
		t.Fatalf("the first state is %d, of %v", n.State(), y)
	}
	seen[1000+int(want)]++
	for range 6 {
		q := m.makeRequest(y)
		state := pick(m.r, 0, 0, 1, 2, y.States-1, y.States, -1)
		want := model(x, prog, vers, y, state, q.proc, q.args)
		if n, a, s := machine.Step(x, prog, vers, y, state, q.proc, q.args); (told{n, a, s}) != want {
			t.Fatalf("Step of %d, %v: %d, %d, %q, not %v, of %v", state, q, n, a, s, want, y)
		}
		seen[want.accept]++
		if want.state != state {
			seen[100]++
		}
	}
}

// TestAsModel is M1 and M2: of tables of all kinds, right ones and wrong ones.
func TestAsModel(t *testing.T) {
	r := rand.New(rand.NewSource(19))
	seen := map[int]int{}
	for range 4000 {
		m := newMaker(r)
		y := m.makeTable()
		prog, vers := m.prog, m.vers
		switch r.Intn(12) {
		case 0:
			prog = pick(r, prog-1, prog+1, -1)
		case 1:
			vers = pick(r, vers-1, vers+1, -1)
		case 2, 3, 4, 5, 6:
			m.spoil(&y)
		}
		wantAsModel(t, m, m.x, prog, vers, y, seen)
	}
	for kind, least := range map[int]int{api.Success: 3000, api.ProcUnavail: 200, api.GarbageArgs: 1000, api.SystemErr: 1000, 100: 500, 1000: 1000, 1000 + int(api.ErrMachineNone): 200, 1000 + int(api.ErrMachineTable): 500} {
		if seen[kind] < least {
			t.Errorf("%d is seen %d times only", kind, seen[kind])
		}
	}
}

// wantRun is M4: a machine, called by several of its services and by a registry, does what Step tells, call by call.
func wantRun(t *testing.T, r *rand.Rand, x api.Schema, prog, vers int, y api.Table, calls []request) (moved int) {
	t.Helper()
	m := made(t, x, prog, vers, y)
	services := []service.Service{m.Service(), m.Service()}
	g := service.New()
	if e := g.Offer(m.Service()); e != api.OK {
		t.Fatal(e)
	}
	state := y.Start
	for i, q := range calls {
		n, a, s := machine.Step(x, prog, vers, y, state, q.proc, q.args)
		if want := modelStep(x, prog, vers, y, state, q.proc, q.args); want != (told{n, a, s}) {
			t.Fatalf("Step of the call %d of %v: %d, %d, %q, not %v", i, calls, n, a, s, want)
		}
		if n != state {
			moved++
		}
		state = n
		var accept int
		var results string
		switch r.Intn(4) {
		case 0:
			accept, results = g.Run(prog, vers, q.proc, q.args)
		case 1:
			accept, results = m.Service().Handle(q.proc, q.args)
		default:
			accept, results = services[r.Intn(2)].Handle(q.proc, q.args)
		}
		if accept != a || results != s || m.State() != state {
			t.Fatalf("the call %d of %v: %d, %q, %d, not %d, %q, %d", i, calls, accept, results, m.State(), a, s, state)
		}
	}
	return moved
}

// TestAllShortRuns is M4: whatever five calls there are, of the chapter's table and a state more, from each state on.
func TestAllShortRuns(t *testing.T) {
	x := compiled(t, source)
	r := rand.New(rand.NewSource(4))
	y := table()
	y.States = 3
	y.Rows = append(y.Rows, api.Row{State: 1, Proc: 1, Args: args(whole(1), whole(2)), To: 2, Result: whole(-1)}, api.Row{State: 2, Proc: 2, To: 2})
	each := []request{{1, four(1) + four(2)}, {1, four(2) + four(1)}, {2, ""}, {2, "abcd"}, {0, ""}, {3, ""}}
	var run func(calls []request, left int)
	run = func(calls []request, left int) {
		if left == 0 {
			y.Start = r.Intn(3)
			wantRun(t, r, x, 9, 3, y, calls)
			return
		}
		for _, q := range each {
			run(append(calls, q), left-1)
		}
	}
	run(make([]request, 0, 5), 5)
}

// rowsIn is a table with the rows of one state alone.
func rowsIn(y api.Table, state int) api.Table {
	y.Rows = slices.DeleteFunc(slices.Clone(y.Rows), func(r api.Row) bool { return r.State != state })
	return y
}

// TestLongRuns is M4: of many tables, and long rows of calls.
func TestLongRuns(t *testing.T) {
	r := rand.New(rand.NewSource(5))
	moved := 0
	for n := 0; n < 150; {
		m := newMaker(r)
		y := m.makeTable()
		if !isTable(m.x, m.prog, m.vers, y) || len(y.Rows) < 3 {
			continue
		}
		n++
		var calls []request
		state := y.Start
		for range 40 {
			q := m.makeRequest(rowsIn(y, state))
			state = modelStep(m.x, m.prog, m.vers, y, state, q.proc, q.args).state
			calls = append(calls, q)
		}
		moved += wantRun(t, r, m.x, m.prog, m.vers, y, calls)
	}
	if moved < 500 {
		t.Errorf("machines have moved %d times only", moved)
	}
}

// TestOrderOfRows: what is told does not hang on the order in which rows stand.
func TestOrderOfRows(t *testing.T) {
	r := rand.New(rand.NewSource(6))
	for range 500 {
		m := newMaker(r)
		y := m.makeTable()
		z := y
		z.Rows = slices.Clone(y.Rows)
		r.Shuffle(len(z.Rows), func(i, k int) { z.Rows[i], z.Rows[k] = z.Rows[k], z.Rows[i] })
		for range 5 {
			q := m.makeRequest(y)
			state := r.Intn(3)
			a, b, c := machine.Step(m.x, m.prog, m.vers, y, state, q.proc, q.args)
			wantStep(t, m.x, m.prog, m.vers, z, state, q.proc, q.args, told{a, b, c})
		}
	}
}

// FuzzStep looks for a call of which Step tells otherwise than the model.
func FuzzStep(f *testing.F) {
	f.Add(int64(1), 0, 1, four(1)+four(2))
	f.Add(int64(2), 1, 9, four(0)+four(0))
	f.Add(int64(3), 2, 0, "a")
	f.Fuzz(func(t *testing.T, seed int64, state, proc int, args string) {
		m := newMaker(rand.New(rand.NewSource(seed)))
		y := m.makeTable()
		wantStep(t, m.x, m.prog, m.vers, y, state, proc, args, model(m.x, m.prog, m.vers, y, state, proc, args))
	})
}

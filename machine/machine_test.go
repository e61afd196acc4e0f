package machine_test

import (
	"slices"
	"testing"

	"callbox/api"
	"callbox/machine"
	"callbox/schema"
	"callbox/service"
)

const source = "program P { version V { int ADD(int, int) = 1; void RESET(void) = 2; } = 3; } = 9;"

func compiled(t testing.TB, s string) api.Schema {
	t.Helper()
	x, e, at := schema.Compile(s)
	if e != api.OK {
		t.Fatalf("%d at %d of %s", e, at, s)
	}
	return x
}

func num(kind, n int) api.Value { return api.Value{Kind: kind, Int: n} }

func whole(n int) api.Value { return num(api.Int, n) }

func text(kind int, s string) api.Value { return api.Value{Kind: kind, Text: s} }

func items(kind int, l ...api.Value) api.Value { return api.Value{Kind: kind, Items: l} }

func parts(l ...api.Value) api.Value { return items(api.Struct, l...) }

func args(l ...api.Value) []api.Value { return l }

// four is a number by four bytes.
func four(n int) string { return string([]byte{byte(n >> 24), byte(n >> 16), byte(n >> 8), byte(n)}) }

// table is that of the chapter's examples.
func table() api.Table {
	return api.Table{States: 2, Rows: []api.Row{
		{State: 0, Proc: 1, Args: args(whole(1), whole(2)), To: 1, Result: whole(3)},
		{State: 1, Proc: 2, To: 0},
	}}
}

// told is what Step tells.
type told struct {
	state, accept int
	results       string
}

func wantStep(t *testing.T, x api.Schema, prog, vers int, y api.Table, state, proc int, args string, want told) {
	t.Helper()
	if n, a, r := machine.Step(x, prog, vers, y, state, proc, args); (told{n, a, r}) != want {
		t.Errorf("Step(%d, %d, state %d, proc %d, %q) = %d, %d, %q, not %v", prog, vers, state, proc, args, n, a, r, want)
	}
}

// wantRefused: New tells e, Step SystemErr, whatever the state and the call.
func wantRefused(t *testing.T, what string, x api.Schema, prog, vers int, y api.Table, want api.Errno) {
	t.Helper()
	if m, e := machine.New(x, prog, vers, y); m != nil || e != want {
		t.Errorf("%s: New: %v, %d, not %d", what, m != nil, e, want)
	}
	for _, state := range []int{0, 1, -1, 64} {
		for _, proc := range []int{0, 1, 2, 7} {
			for _, s := range []string{"", four(1) + four(2), "a"} {
				if n, a, r := machine.Step(x, prog, vers, y, state, proc, s); (told{n, a, r}) != (told{state, api.SystemErr, ""}) {
					t.Errorf("%s: Step of %d, %d, %q: %d, %d, %q", what, state, proc, s, n, a, r)
				}
			}
		}
	}
}

func made(t testing.TB, x api.Schema, prog, vers int, y api.Table) *machine.Machine {
	t.Helper()
	m, e := machine.New(x, prog, vers, y)
	if m == nil || e != api.OK {
		t.Fatalf("New(%d, %d): %d", prog, vers, e)
	}
	return m
}

func wantHandle(t *testing.T, m *machine.Machine, s service.Service, proc int, args string, want told) {
	t.Helper()
	if a, r := s.Handle(proc, args); (told{m.State(), a, r}) != want {
		t.Errorf("Handle(%d, %q) = %d, %q, in the state %d, not %v", proc, args, a, r, m.State(), want)
	}
}

// TestStep is the chapter's first example, and what it says of the other state.
func TestStep(t *testing.T) {
	x := compiled(t, source)
	for _, c := range []struct {
		state, proc int
		args        string
		want        told
	}{
		{0, 1, four(1) + four(2), told{1, api.Success, four(3)}},
		{0, 1, four(2) + four(2), told{0, api.Success, four(0)}},
		{0, 1, four(2) + four(1), told{0, api.Success, four(0)}},
		{0, 2, "", told{0, api.Success, ""}},
		{0, 1, "abcd", told{0, api.GarbageArgs, ""}},
		{0, 5, "", told{0, api.ProcUnavail, ""}},
		{0, 0, "", told{0, api.Success, ""}},
		{0, 0, "abcd", told{0, api.GarbageArgs, ""}},
		{1, 1, four(1) + four(2), told{1, api.Success, four(0)}},
		{1, 2, "", told{0, api.Success, ""}},
		{1, 2, "abcd", told{1, api.GarbageArgs, ""}},
		{1, 1, "", told{1, api.GarbageArgs, ""}},
		{1, 1, four(1) + four(2) + four(3), told{1, api.GarbageArgs, ""}},
		{1, 1, four(1) + "abc", told{1, api.GarbageArgs, ""}},
		{1, 5, four(1) + four(2), told{1, api.ProcUnavail, ""}},
		{1, -1, "", told{1, api.ProcUnavail, ""}},
		{1, 0, "", told{1, api.Success, ""}},
		{1, 0, "a", told{1, api.GarbageArgs, ""}},
	} {
		wantStep(t, x, 9, 3, table(), c.state, c.proc, c.args, c.want)
	}
}

// TestRefused is the chapter's second example.
func TestRefused(t *testing.T) {
	x := compiled(t, source)
	wantStep(t, x, 9, 3, table(), 2, 1, four(1)+four(2), told{2, api.SystemErr, ""})
	wantRefused(t, "vers 4", x, 9, 4, table(), api.ErrMachineNone)
	y := table()
	y.Rows = append(y.Rows, api.Row{State: 0, Proc: 1, Args: args(whole(1), whole(2)), To: 0, Result: whole(4)})
	wantRefused(t, "something else", x, 9, 3, y, api.ErrMachineTable)
}

// TestMachine is the chapter's third example, and goes on.
func TestMachine(t *testing.T) {
	m := made(t, compiled(t, source), 9, 3, table())
	if m.State() != 0 {
		t.Errorf("the first state is %d", m.State())
	}
	s := m.Service()
	if s.Prog != 9 || s.Vers != 3 || !slices.Equal(s.Procs, []int{1, 2}) {
		t.Errorf("a service of %d, %d, %v", s.Prog, s.Vers, s.Procs)
	}
	add := four(1) + four(2)
	wantHandle(t, m, s, 1, add, told{1, api.Success, four(3)})
	wantHandle(t, m, s, 1, add, told{1, api.Success, four(0)})
	wantHandle(t, m, s, 1, "abcd", told{1, api.GarbageArgs, ""})
	wantHandle(t, m, s, 0, "", told{1, api.Success, ""})
	wantHandle(t, m, s, 0, "abcd", told{1, api.GarbageArgs, ""})
	wantHandle(t, m, s, 5, "", told{1, api.ProcUnavail, ""})
	wantHandle(t, m, s, -1, "", told{1, api.ProcUnavail, ""})
	wantHandle(t, m, s, 2, "", told{0, api.Success, ""})
	wantHandle(t, m, s, 2, "", told{0, api.Success, ""})
	wantHandle(t, m, s, 1, add, told{1, api.Success, four(3)})
}

// TestStart is M2: a machine begins in whatever state the table says.
func TestStart(t *testing.T) {
	x := compiled(t, source)
	y := table()
	y.States = 64
	for start := range 64 {
		y.Start = start
		m := made(t, x, 9, 3, y)
		if m.State() != start {
			t.Errorf("%d, not %d", m.State(), start)
		}
		m.Service()
		if m.State() != start {
			t.Errorf("Service has moved it from %d to %d", start, m.State())
		}
	}
}

// TestServicesOfOneMachine is M3: all of them move that one.
func TestServicesOfOneMachine(t *testing.T) {
	m := made(t, compiled(t, source), 9, 3, table())
	a := m.Service()
	wantHandle(t, m, a, 1, four(1)+four(2), told{1, api.Success, four(3)})
	b := m.Service()
	wantHandle(t, m, b, 1, four(1)+four(2), told{1, api.Success, four(0)})
	wantHandle(t, m, b, 2, "", told{0, api.Success, ""})
	wantHandle(t, m, a, 1, four(1)+four(2), told{1, api.Success, four(3)})
	wantHandle(t, m, m.Service(), 2, "", told{0, api.Success, ""})
}

// TestBehindARegistry: a service of a machine can be offered and run.
func TestBehindARegistry(t *testing.T) {
	m := made(t, compiled(t, source), 9, 3, table())
	r := service.New()
	if e := r.Offer(m.Service()); e != api.OK {
		t.Fatal(e)
	}
	for _, c := range []struct {
		proc int
		args string
		want told
	}{
		{1, four(1) + four(2), told{1, api.Success, four(3)}},
		{0, "", told{1, api.Success, ""}},
		{1, four(9) + four(2), told{1, api.Success, four(0)}},
		{1, four(9), told{1, api.GarbageArgs, ""}},
		{3, "", told{1, api.ProcUnavail, ""}},
		{2, "", told{0, api.Success, ""}},
	} {
		if a, s := r.Run(9, 3, c.proc, c.args); (told{m.State(), a, s}) != c.want {
			t.Errorf("%d, %q: %d, %q, in the state %d, not %v", c.proc, c.args, a, s, m.State(), c.want)
		}
	}
}

// TestProcs is M3: the numbers of the version's procedures but 0, rising, in whatever order the source has them.
func TestProcs(t *testing.T) {
	for _, c := range []struct {
		source string
		want   []int
	}{
		{"program P { version V { void N(void) = 0; } = 1; } = 1;", nil},
		{"program P { version V { void A(void) = 1; } = 1; } = 1;", []int{1}},
		{"program P { version V { void A(void) = 7; void N(void) = 0; int B(int) = 4294967295; void C(void) = 2; void D(void) = 1; } = 1; } = 1;", []int{1, 2, 7, 4294967295}},
		{"program P { version U { void A(void) = 9; } = 0; version V { void B(void) = 8; void C(void) = 3; } = 1; } = 1; program Q { version V { void B(void) = 5; } = 1; } = 2;", []int{3, 8}},
	} {
		m := made(t, compiled(t, c.source), 1, 1, api.Table{States: 1})
		s := m.Service()
		if s.Prog != 1 || s.Vers != 1 || !slices.Equal(s.Procs, c.want) {
			t.Errorf("%s: %d, %d, %v, not %v", c.source, s.Prog, s.Vers, s.Procs, c.want)
		}
		if e := service.New().Offer(s); e != api.OK {
			t.Errorf("%s: it cannot be offered: %d", c.source, e)
		}
	}
}

// TestVersions is M1 and M2: which version is meant is said by both numbers.
func TestVersions(t *testing.T) {
	x := compiled(t, `
program P { version U { int A(void) = 1; } = 0; version V { hyper A(void) = 1; } = 4294967295; } = 0;
program Q { version W { bool A(bool) = 2; } = 5; } = 4294967295;
program R { version Z { void N(void) = 0; } = 6; } = 7;`)
	y := api.Table{States: 1}
	big := api.MaxWord
	wantStep(t, x, 0, 0, y, 0, 1, "", told{0, api.Success, four(0)})
	wantStep(t, x, 0, big, y, 0, 1, "", told{0, api.Success, four(0) + four(0)})
	wantStep(t, x, big, 5, y, 0, 2, four(1), told{0, api.Success, four(0)})
	wantStep(t, x, big, 5, y, 0, 1, "", told{0, api.ProcUnavail, ""})
	wantStep(t, x, 7, 6, y, 0, 1, "", told{0, api.ProcUnavail, ""})
	wantStep(t, x, 7, 6, y, 0, 0, "", told{0, api.Success, ""})
	there := [][2]int{{0, 0}, {0, big}, {big, 5}, {7, 6}}
	for _, prog := range []int{0, 7, big, -1, 1, big + 1} {
		for _, vers := range []int{0, 5, 6, big, -1, 1, big + 1} {
			if !slices.Contains(there, [2]int{prog, vers}) {
				wantRefused(t, "no version", x, prog, vers, y, api.ErrMachineNone)
			} else if s := made(t, x, prog, vers, y).Service(); s.Prog != prog || s.Vers != vers {
				t.Errorf("%d, %d, not %d, %d", s.Prog, s.Vers, prog, vers)
			}
		}
	}
}

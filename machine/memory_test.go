package machine_test

import (
	"fmt"
	"math/rand"
	"runtime"
	"slices"
	"strings"
	"sync"
	"testing"
	"time"
	"unsafe"
	"weak"

	"callbox/api"
	"callbox/machine"
	"callbox/service"
)

// spoilAll writes over all that a schema and a table have.
func spoilAll(x api.Schema, y api.Table) {
	for _, p := range x.Programs {
		for _, v := range p.Versions {
			for _, one := range v.Procs {
				clear(one.Args)
			}
			clear(v.Procs)
		}
		clear(p.Versions)
	}
	for _, one := range x.Types {
		for _, a := range one.Arms {
			clear(a.Cases)
		}
		clear(one.Members)
		clear(one.Fields)
		clear(one.Arms)
	}
	for _, r := range y.Rows {
		for i := range r.Args {
			spoilValue(r.Args[i])
		}
		clear(r.Args)
		spoilValue(r.Result)
	}
	clear(x.Programs)
	clear(x.Names)
	clear(x.Types)
	clear(y.Rows)
}

func spoilValue(v api.Value) {
	for _, part := range v.Items {
		spoilValue(part)
	}
	clear(v.Items)
}

// roomy is a table whose lists have spare room, with something in it.
func roomy(y api.Table) api.Table {
	y.Rows = append(slices.Clone(y.Rows), api.Row{Proc: 98}, api.Row{Proc: 99})[:len(y.Rows)]
	for i := range y.Rows {
		n := len(y.Rows[i].Args)
		y.Rows[i].Args = append(slices.Clone(y.Rows[i].Args), whole(98), whole(99))[:n]
	}
	return y
}

// shown is all of a schema and a table, spare room of the table too.
func shown(x api.Schema, y api.Table) string {
	s := fmt.Sprintf("%#v %#v", x, y)
	for _, r := range y.Rows[:cap(y.Rows)] {
		s += fmt.Sprintf(" %#v %#v", r, r.Args[:cap(r.Args)])
	}
	return s
}

// TestNothingIsWrittenInto: neither a schema nor a table, nor its spare room.
func TestNothingIsWrittenInto(t *testing.T) {
	r := rand.New(rand.NewSource(1))
	for range 300 {
		m := newMaker(r)
		y := m.makeTable()
		if r.Intn(3) == 0 {
			m.spoil(&y)
		}
		y = roomy(y)
		before := shown(m.x, y)
		q := m.makeRequest(y)
		machine.Step(m.x, m.prog, m.vers, y, y.Start, q.proc, q.args)
		if n, e := machine.New(m.x, m.prog, m.vers, y); e == api.OK {
			n.Service().Handle(q.proc, q.args)
		}
		if after := shown(m.x, y); after != before {
			t.Fatalf("written into: %s, was %s", after, before)
		}
	}
}

// TestNothingIsShared: a machine goes on as it was, whatever becomes of what it was made of.
func TestNothingIsShared(t *testing.T) {
	for seed := range int64(200) {
		m := newMaker(rand.New(rand.NewSource(seed)))
		y := m.makeTable()
		if !isTable(m.x, m.prog, m.vers, y) {
			continue
		}
		var calls []request
		var want []told
		state := y.Start
		for range 8 {
			q := m.makeRequest(rowsIn(y, state))
			o := modelStep(m.x, m.prog, m.vers, y, state, q.proc, q.args)
			calls, want, state = append(calls, q), append(want, o), o.state
		}
		procs := made(t, m.x, m.prog, m.vers, y).Service().Procs
		n := made(t, m.x, m.prog, m.vers, y)
		s := n.Service()
		spoilAll(m.x, y)
		if !slices.Equal(n.Service().Procs, procs) || !slices.Equal(s.Procs, procs) {
			t.Fatalf("procedures %v, not %v", n.Service().Procs, procs)
		}
		for i, q := range calls {
			wantHandle(t, n, s, q.proc, q.args, want[i])
		}
	}
}

// TestProcsAreNewMemory: whoever writes into them, or behind them, writes into nothing of the machine's.
func TestProcsAreNewMemory(t *testing.T) {
	m := made(t, compiled(t, source), 9, 3, table())
	a, b := m.Service(), m.Service()
	for i := range a.Procs[:cap(a.Procs)] {
		a.Procs[:cap(a.Procs)][i] = 77
	}
	for _, s := range []service.Service{b, m.Service()} {
		if !slices.Equal(s.Procs, []int{1, 2}) {
			t.Errorf("%v", s.Procs)
		}
	}
	wantHandle(t, m, a, 1, four(1)+four(2), told{1, api.Success, four(3)})
	wantHandle(t, m, a, 77, "", told{1, api.ProcUnavail, ""})
}

// collected: what p points to goes, once nobody has it.
func collected[T any](p weak.Pointer[T]) bool {
	for range 50 {
		runtime.GC()
		if p.Value() == nil {
			return true
		}
		time.Sleep(time.Millisecond)
	}
	return false
}

// TestNothingIsKept: the memory of schemas, tables, values and calls goes.
func TestNothingIsKept(t *testing.T) {
	var m *machine.Machine
	parts := func() map[string]weak.Pointer[byte] {
		x := compiled(t, kinds)
		said := strings.Repeat("said", 20)
		y := api.Table{States: 2, Rows: []api.Row{{Proc: 1, Args: args(text(api.String, said)), To: 1, Result: text(api.String, said)}}}
		m = made(t, x, 1, 1, y)
		call := four(80) + said
		wantHandle(t, m, m.Service(), 1, call, told{1, api.Success, call})
		other := four(80) + strings.ToUpper(said)
		wantHandle(t, m, m.Service(), 1, other, told{1, api.Success, four(0)})
		return map[string]weak.Pointer[byte]{
			"a text":       weak.Make(unsafe.StringData(said)),
			"a call":       weak.Make(unsafe.StringData(call)),
			"another call": weak.Make(unsafe.StringData(other)),
			"rows":         weak.Make((*byte)(unsafe.Pointer(&y.Rows[0]))),
			"arguments":    weak.Make((*byte)(unsafe.Pointer(&y.Rows[0].Args[0]))),
			"types":        weak.Make((*byte)(unsafe.Pointer(&x.Types[0]))),
			"names":        weak.Make((*byte)(unsafe.Pointer(&x.Names[0]))),
			"programs":     weak.Make((*byte)(unsafe.Pointer(&x.Programs[0]))),
			"procedures":   weak.Make((*byte)(unsafe.Pointer(&x.Programs[0].Versions[0].Procs[0]))),
			"their types":  weak.Make((*byte)(unsafe.Pointer(&x.Programs[0].Versions[0].Procs[1].Args[0]))),
		}
	}()
	for what, p := range parts {
		if !collected(p) {
			t.Errorf("%s: kept", what)
		}
	}
	runtime.KeepAlive(m)
}

// TestResultsAreNewMemory: a result shares none with the call, nor with the table.
func TestResultsAreNewMemory(t *testing.T) {
	x := compiled(t, kinds)
	said := strings.Repeat("said", 20)
	y := api.Table{States: 1, Rows: []api.Row{{Proc: 1, Args: args(text(api.String, said)), Result: text(api.String, said)}}}
	call := four(80) + said
	_, a, s := machine.Step(x, 1, 1, y, 0, 1, call)
	if a != api.Success || s != call {
		t.Fatalf("%d, %q", a, s)
	}
	for _, other := range []string{call, said} {
		if from, to := uintptr(unsafe.Pointer(unsafe.StringData(other))), uintptr(unsafe.Pointer(unsafe.StringData(s))); to < from+uintptr(len(other)) && from < to+uintptr(len(s)) {
			t.Error("the result shares memory")
		}
	}
}

// TestApart: machines know nothing of one another, also those of one table.
func TestApart(t *testing.T) {
	x, y := compiled(t, source), table()
	a, b := made(t, x, 9, 3, y), made(t, x, 9, 3, y)
	add := four(1) + four(2)
	wantHandle(t, a, a.Service(), 1, add, told{1, api.Success, four(3)})
	if b.State() != 0 {
		t.Errorf("the other one is in the state %d", b.State())
	}
	wantHandle(t, b, b.Service(), 2, "", told{0, api.Success, ""})
	wantHandle(t, b, b.Service(), 1, add, told{1, api.Success, four(3)})
	wantHandle(t, b, b.Service(), 2, "", told{0, api.Success, ""})
	wantHandle(t, a, a.Service(), 1, add, told{1, api.Success, four(0)})
	machine.Step(x, 9, 3, y, 1, 2, "")
	if a.State() != 1 || b.State() != 0 {
		t.Errorf("Step has moved one: %d, %d", a.State(), b.State())
	}
}

// TestCopied: a copy of what a pointer leads to goes its own way.
func TestCopied(t *testing.T) {
	a := made(t, compiled(t, source), 9, 3, table())
	s := a.Service()
	b := *a
	wantHandle(t, a, s, 1, four(1)+four(2), told{1, api.Success, four(3)})
	if b.State() != 0 {
		t.Errorf("the copy is in the state %d", b.State())
	}
	wantHandle(t, &b, b.Service(), 1, four(1)+four(2), told{1, api.Success, four(3)})
	wantHandle(t, &b, b.Service(), 2, "", told{0, api.Success, ""})
	if a.State() != 1 {
		t.Errorf("the first one is in the state %d", a.State())
	}
}

// TestEmptyMachine: one that New did not make does not panic.
func TestEmptyMachine(t *testing.T) {
	var m machine.Machine
	s := m.Service()
	if m.State() != 0 || len(s.Procs) != 0 {
		t.Errorf("%d, %v", m.State(), s.Procs)
	}
	for _, proc := range []int{0, 1, -1} {
		s.Handle(proc, "")
		s.Handle(proc, "abcd")
	}
}

// TestAtOnce: machines of one schema and one table may be used at the same time.
func TestAtOnce(t *testing.T) {
	x, y := compiled(t, source), table()
	var all sync.WaitGroup
	for range 8 {
		all.Go(func() {
			m, e := machine.New(x, 9, 3, y)
			if e != api.OK {
				t.Error(e)
				return
			}
			for range 200 {
				wantHandle(t, m, m.Service(), 1, four(1)+four(2), told{1, api.Success, four(3)})
				wantHandle(t, m, m.Service(), 2, "", told{0, api.Success, ""})
				wantStep(t, x, 9, 3, y, 1, 2, "", told{0, api.Success, ""})
			}
		})
	}
	all.Wait()
}

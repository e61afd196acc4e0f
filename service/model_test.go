package service_test

import (
	"fmt"
	"strings"

	"callbox/api"
	"callbox/service"
)

// tells is what a Handle is to do, called the next time.
type tells struct {
	panics  bool
	accept  int
	results string
}

// step is a call of Offer, or of Run (and of Find ahead of it and behind it).
type step struct {
	offers     bool
	prog, vers int
	procs      []int
	noHandle   bool
	proc       int
	args       string
	tells      tells
}

func (s step) String() string {
	if s.offers {
		return fmt.Sprintf("Offer(%d, %d, %v, %v)", s.prog, s.vers, s.procs, !s.noHandle)
	}
	return fmt.Sprintf("Run(%d, %d, %d, %d bytes; %v, %d, %d bytes)", s.prog, s.vers, s.proc, len(s.args), s.tells.panics, s.tells.accept, len(s.tells.results))
}

// call is one that a Handle was called with: which of the offers it came with, from 0 on.
type call struct {
	offer, proc int
	args        string
}

// told is what may be told of a call.
type told struct{ accept, low, high int }

// table says of each procedure that there is what it is of: nothing is kept of an offer but that.
type table struct {
	of     map[[3]int]int
	offers int
	taken  int
}

// versions of a program are those whose procedure 0 there is.
func (m *table) versions(prog int) map[int]int {
	all := map[int]int{}
	for key := range m.of {
		if key[0] == prog {
			all[key[1]]++
		}
	}
	return all
}

func (m *table) find(prog, vers, proc int) told {
	all := m.versions(prog)
	if len(all) == 0 {
		return told{accept: api.ProgUnavail}
	}
	if all[vers] == 0 {
		x := told{api.ProgMismatch, 1 << 40, -1}
		for v := range all {
			x.low, x.high = min(x.low, v), max(x.high, v)
		}
		return x
	}
	if _, is := m.of[[3]int{prog, vers, proc}]; !is {
		return told{accept: api.ProcUnavail}
	}
	return told{}
}

func (m *table) offer(s step) api.Errno {
	number := m.offers
	m.offers++
	procs := append([]int{0}, s.procs...)
	for i := range procs {
		if !word(procs[i]) || i > 0 && procs[i-1] >= procs[i] {
			return api.ErrServiceForm
		}
	}
	if !word(s.prog) || !word(s.vers) || s.noHandle {
		return api.ErrServiceForm
	}
	if m.versions(s.prog)[s.vers] > 0 {
		return api.ErrServiceTwice
	}
	if m.taken == 16 {
		return api.ErrServiceMany
	}
	m.taken++
	for _, proc := range procs {
		m.of[[3]int{s.prog, s.vers, proc}] = number
	}
	return api.OK
}

// run is what is told, and what is called.
func (m *table) run(s step) (int, string, []call) {
	if x := m.find(s.prog, s.vers, s.proc); x.accept != api.Success {
		return x.accept, "", nil
	}
	if s.proc == 0 && s.args == "" {
		return api.Success, "", nil
	}
	if s.proc == 0 {
		return api.GarbageArgs, "", nil
	}
	calls := []call{{m.of[[3]int{s.prog, s.vers, s.proc}], s.proc, s.args}}
	if s.tells.panics {
		return api.SystemErr, "", calls
	}
	if s.tells.accept == api.GarbageArgs {
		return api.GarbageArgs, "", calls
	}
	if s.tells.accept == api.Success && len(s.tells.results) < 1001 && len(s.tells.results)&3 == 0 {
		return api.Success, s.tells.results, calls
	}
	return api.SystemErr, "", calls
}

// pair is a registry, and the table that it must agree with.
type pair struct {
	registry *service.Registry
	table    *table
	tells    tells
	calls    []call
	asked    map[[3]int]int
}

func newPair() *pair {
	return &pair{registry: service.New(), table: &table{of: map[[3]int]int{}}, asked: map[[3]int]int{}}
}

// handleOf an offer tells what the step says.
func (p *pair) handleOf(offer int) func(int, string) (int, string) {
	return func(proc int, args string) (int, string) {
		p.calls = append(p.calls, call{offer, proc, args})
		if p.tells.panics {
			panic(p.tells)
		}
		return p.tells.accept, p.tells.results
	}
}

// play makes the call with both: what is wrong with the registry.
func (p *pair) play(s step) string {
	p.tells, p.calls = s.tells, nil
	p.asked[[3]int{s.prog, s.vers, s.proc}]++
	if s.offers {
		x := service.Service{Prog: s.prog, Vers: s.vers, Procs: s.procs, Handle: p.handleOf(p.table.offers)}
		if s.noHandle {
			x.Handle = nil
		}
		if got, want := p.registry.Offer(x), p.table.offer(s); got != want {
			return fmt.Sprintf("Offer: %d, not %d", got, want)
		}
		return p.standsWrong(nil)
	}
	accept, results := p.registry.Run(s.prog, s.vers, s.proc, s.args)
	wanted, text, calls := p.table.run(s)
	if accept != wanted || results != text {
		return fmt.Sprintf("Run: %d, %d bytes, not %d, %d bytes", accept, len(results), wanted, len(text))
	}
	return p.standsWrong(calls)
}

// standsWrong is what is wrong with what was called, or with what is found, of all that was ever asked of.
func (p *pair) standsWrong(calls []call) string {
	if got, want := fmt.Sprint(p.calls), fmt.Sprint(calls); got != want {
		return fmt.Sprintf("called was %s, not %s", got, want)
	}
	for key := range p.asked {
		a, low, high := p.registry.Find(key[0], key[1], key[2])
		if want := p.table.find(key[0], key[1], key[2]); want != (told{a, low, high}) {
			return fmt.Sprintf("Find%v: %d, %d, %d, not %v", key, a, low, high, want)
		}
	}
	return ""
}

func bytesOf(n int) string { return strings.Repeat("b", n) }

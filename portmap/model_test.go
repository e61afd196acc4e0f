package portmap_test

import (
	"cmp"
	"fmt"
	"maps"
	"slices"

	"callbox/api"
	"callbox/portmap"
	"callbox/service"
)

// key is what no two mappings have.
type key struct{ prog, vers, prot int }

// place is what stands under a key: where to, and when it came.
type place struct{ port, came int }

// list is what a list of mappings would be: nothing is kept of its order but when each came.
type list struct {
	of   map[key]place
	came int
}

func newList() *list { return &list{of: map[key]place{}} }

func (l *list) set(x api.Mapping) bool {
	k := key{x.Prog, x.Vers, x.Prot}
	_, twice := l.of[k]
	words := x.Prog|x.Vers >= 0 && x.Prog|x.Vers < 1<<32
	prots := x.Prot == 6 || x.Prot == 17
	if twice || !words || !prots || x.Port <= 0 || x.Port >= 1<<16 || len(l.of) == 30 {
		return false
	}
	l.came++
	l.of[k] = place{x.Port, l.came}
	return true
}

func (l *list) unset(prog, vers int) bool {
	had := len(l.of)
	maps.DeleteFunc(l.of, func(k key, _ place) bool { return k.prog == prog && k.vers == vers })
	return len(l.of) < had
}

func (l *list) port(prog, vers, prot int) int { return l.of[key{prog, vers, prot}].port }

func (l *list) dump() []api.Mapping {
	keys := slices.SortedFunc(maps.Keys(l.of), func(a, b key) int { return cmp.Compare(l.of[a].came, l.of[b].came) })
	var all []api.Mapping
	for _, k := range keys {
		all = append(all, mapping(k.prog, k.vers, k.prot, l.of[k].port))
	}
	return all
}

// How a step is taken.
const (
	byCall     = 0
	byHandle   = 1
	byRegistry = 2
	ways       = 3
)

// step is one of the four things that a map does; or a call, through a service, of whatever else.
type step struct {
	way, proc int
	x         api.Mapping
	raw       bool // args as they are, in the place of those of x
	args      string
}

func (s step) String() string {
	if s.raw {
		return fmt.Sprintf("{way %d, %d, %q}", s.way, s.proc, s.args)
	}
	return fmt.Sprintf("{way %d, %d, %v}", s.way, s.proc, s.x)
}

// trio is a map that is used all ways, one that is called alone, and a list that both must agree with.
type trio struct {
	mixed, called *portmap.Map
	handle        func(int, string) (int, string)
	registry      *service.Registry
	list          *list
	seen          map[string]int
}

func newTrio(seen map[string]int) *trio {
	p := &trio{mixed: portmap.New(), called: portmap.New(), registry: service.New(), list: newList(), seen: seen}
	p.handle = p.mixed.Service().Handle
	p.registry.Offer(p.mixed.Service())
	return p
}

// number is false and true as Heard tells them.
func number(b bool) int {
	if b {
		return 1
	}
	return 0
}

// direct is what a map tells of a step: a number, or mappings.
func direct(m *portmap.Map, proc int, x api.Mapping) (int, []api.Mapping) {
	switch proc {
	case 1:
		return number(m.Set(x)), nil
	case 2:
		return number(m.Unset(x.Prog, x.Vers)), nil
	case 3:
		return m.Port(x.Prog, x.Vers, x.Prot), nil
	}
	return 0, m.Dump()
}

// should is what the list tells of it.
func (l *list) should(proc int, x api.Mapping) (int, []api.Mapping) {
	switch proc {
	case 1:
		return number(l.set(x)), nil
	case 2:
		return number(l.unset(x.Prog, x.Vers)), nil
	case 3:
		return l.port(x.Prog, x.Vers, x.Prot), nil
	}
	return 0, l.dump()
}

// serve makes a call through the service.
func (p *trio) serve(s step, args string) (int, string) {
	if s.way == byRegistry {
		return p.registry.Run(100000, 2, s.proc, args)
	}
	return p.handle(s.proc, args)
}

// asked is what the service tells of a step, as who has called reads it.
func (p *trio) asked(s step) (int, []api.Mapping, string) {
	args, e := portmap.Args(s.x)
	if s.proc == 4 {
		args = ""
	} else if e != api.OK {
		return 0, nil, fmt.Sprintf("Args: %d", e)
	}
	a, results := p.serve(s, args)
	if a != api.Success {
		return 0, nil, fmt.Sprintf("it is answered %d", a)
	}
	if s.proc == 4 {
		l, e := portmap.Listed(results)
		if e != api.OK {
			return 0, nil, fmt.Sprintf("Listed: %d of %q", e, results)
		}
		return 0, l, ""
	}
	n, e := portmap.Heard(results)
	if e != api.OK {
		return 0, nil, fmt.Sprintf("Heard: %d of %q", e, results)
	}
	return n, nil, ""
}

// refused is what is wrong with the answer to a call that does nothing.
func (p *trio) refused(s step) string {
	want := api.GarbageArgs
	if s.proc < 1 || s.proc > 4 {
		want = api.SystemErr
		s.way = byHandle
	}
	p.seen[fmt.Sprint("raw ", want)]++
	if a, results := p.serve(s, s.args); a != want || results != "" {
		return fmt.Sprintf("%d, %q, not %d", a, results, want)
	}
	return ""
}

// play takes a step with all three: what is wrong.
func (p *trio) play(s step) string {
	if s.raw {
		if wrong := p.refused(s); wrong != "" {
			return wrong
		}
		return p.stands()
	}
	if !isWord(s.x.Prog) || !isWord(s.x.Vers) || !isWord(s.x.Prot) || !isWord(s.x.Port) {
		s.way = byCall
	}
	n, l, wrong := 0, []api.Mapping(nil), ""
	if s.way == byCall {
		n, l = direct(p.mixed, s.proc, s.x)
	} else {
		n, l, wrong = p.asked(s)
	}
	number, all := p.list.should(s.proc, s.x)
	m, other := direct(p.called, s.proc, s.x)
	p.seen[fmt.Sprint("proc ", s.proc, min(number, 2))]++
	if wrong != "" || n != number || m != number || !slices.Equal(l, all) || !slices.Equal(other, all) {
		return fmt.Sprintf("%s: %d, %v, and %d, %v, not %d, %v", wrong, n, l, m, other, number, all)
	}
	return p.stands()
}

// stands is what is wrong with what the maps have.
func (p *trio) stands() string {
	a, b, want := p.mixed.Dump(), p.called.Dump(), p.list.dump()
	if !slices.Equal(a, want) || !slices.Equal(b, want) {
		return fmt.Sprintf("they have %v and %v, not %v", a, b, want)
	}
	p.seen[fmt.Sprint("length ", len(want))]++
	once := map[key]int{}
	for _, x := range a {
		once[key{x.Prog, x.Vers, x.Prot}]++
	}
	if len(once) != len(a) {
		return fmt.Sprintf("two are alike: %v", a)
	}
	return ""
}

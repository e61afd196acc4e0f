package schema

import (
	"slices"

	"callbox/api"
)

// fault is what is wrong with a tree, and where.
type fault struct {
	why api.Errno
	at  int
}

func wrong(why api.Errno, t api.Tree) *fault { return &fault{why, t.At} }

// resolver goes through a tree that is one of a source: so each node has the kids that its kind wants.
type resolver struct {
	types    []api.Type
	writers  []int // of each type, where the node stands that writes it
	names    *space
	programs []api.Program
	own      int  // the place of the body that is being defined; 0, which no name has: there is none
	loose    bool // a list or a maybe stands around what is gone through
}

func newResolver() *resolver {
	r := &resolver{names: newSpace()}
	for kind := api.Void; kind <= api.Bool; kind++ {
		r.types = append(r.types, api.Type{Kind: kind})
		r.writers = append(r.writers, 0)
	}
	return r
}

func (r *resolver) definition(t api.Tree) *fault {
	switch t.Kind {
	case api.NodeConst:
		return r.take(t, aConstant, t.Kids[0].Number)
	case api.NodeTypedef:
		return r.typedef(t.Kids[0])
	case api.NodeProgram:
		return r.program(t)
	}
	return r.defined(t)
}

// take lets the name of a node stand for something.
func (r *resolver) take(t api.Tree, kind, value int) *fault {
	if !r.names.take(t.Name, kind, value) {
		return wrong(api.ErrSchemaTwice, t)
	}
	return nil
}

func (r *resolver) typedef(t api.Tree) *fault {
	first := len(r.types)
	place, bad := r.declaration(t, r.names.stands)
	if bad != nil {
		return bad
	}
	r.names.take(t.Name, aType, place)
	return r.leastFit(first, len(r.types))
}

// defined goes through an enum, a struct or a union that has a name. Its place is ahead of those of the types within, but its least value is looked at last.
func (r *resolver) defined(t api.Tree) *fault {
	place := len(r.types)
	if bad := r.take(t, aType, place); bad != nil {
		return bad
	}
	// Till it is whole it is nothing: so nothing that tells arms apart.
	if _, bad := r.add(api.Type{}, t); bad != nil {
		return bad
	}
	r.own = place
	body, bad := r.body(t)
	if bad != nil {
		return bad
	}
	r.own = 0
	r.types[place] = body
	if bad := r.leastFit(place+1, len(r.types)); bad != nil {
		return bad
	}
	return r.leastFit(place, place+1)
}

// add is the place of a new type, which a node writes.
func (r *resolver) add(x api.Type, t api.Tree) (int, *fault) {
	if len(r.types) == api.MaxTypes {
		return 0, wrong(api.ErrSchemaMany, t)
	}
	r.types = append(r.types, x)
	r.writers = append(r.writers, t.At)
	return len(r.types) - 1, nil
}

// leastFit looks at the least values of the types of some places. It is asked when a definition is whole: what stands below a list or a maybe may have the very body within that is being defined.
func (r *resolver) leastFit(from, to int) *fault {
	m := newMeasurer(r.types)
	for place := from; place < to; place++ {
		if !m.fits(place) {
			return &fault{api.ErrSchemaRange, r.writers[place]}
		}
	}
	return nil
}

func (r *resolver) program(t api.Tree) *fault {
	if bad := r.take(t, aProgram, 0); bad != nil {
		return bad
	}
	p := api.Program{Name: t.Name, Number: t.Kids[0].Number}
	for _, kid := range t.Kids[1:] {
		v, bad := r.version(kid, p.Versions)
		if bad != nil {
			return bad
		}
		p.Versions = append(p.Versions, v)
	}
	if slices.ContainsFunc(r.programs, func(o api.Program) bool { return o.Number == p.Number }) {
		return wrong(api.ErrSchemaNumber, t.Kids[0])
	}
	r.programs = append(r.programs, p)
	return nil
}

func (r *resolver) version(t api.Tree, ahead []api.Version) (api.Version, *fault) {
	v := api.Version{Name: t.Name, Number: t.Kids[0].Number}
	if slices.ContainsFunc(ahead, func(o api.Version) bool { return o.Name == v.Name }) {
		return v, wrong(api.ErrSchemaTwice, t)
	}
	for _, kid := range t.Kids[1:] {
		p, bad := r.procedure(kid, v.Procs)
		if bad != nil {
			return v, bad
		}
		v.Procs = append(v.Procs, p)
	}
	if slices.ContainsFunc(ahead, func(o api.Version) bool { return o.Number == v.Number }) {
		return v, wrong(api.ErrSchemaNumber, t.Kids[0])
	}
	return v, nil
}

func (r *resolver) procedure(t api.Tree, ahead []api.Proc) (p api.Proc, bad *fault) {
	p = api.Proc{Name: t.Name, Number: t.Kids[0].Number}
	if p.Result, bad = r.result(t.Kids[1]); bad != nil {
		return p, bad
	}
	if slices.ContainsFunc(ahead, func(o api.Proc) bool { return o.Name == p.Name }) {
		return p, wrong(api.ErrSchemaTwice, t)
	}
	if p.Args, bad = r.arguments(t.Kids[2:]); bad != nil {
		return p, bad
	}
	if slices.ContainsFunc(ahead, func(o api.Proc) bool { return o.Number == p.Number }) {
		return p, wrong(api.ErrSchemaNumber, t.Kids[0])
	}
	if !rightNull(p) {
		return p, wrong(api.ErrSchemaVoid, t)
	}
	return p, nil
}

// rightNull: has a procedure of the number 0 neither arguments nor a result?
func rightNull(p api.Proc) bool {
	return p.Number != 0 || len(p.Args) == 0 && p.Result == api.Void
}

func (r *resolver) result(t api.Tree) (int, *fault) {
	if t.Kind == api.NodeVoid {
		return api.Void, nil
	}
	return r.written(t)
}

func (r *resolver) arguments(kids []api.Tree) ([]int, *fault) {
	if kids[0].Kind == api.NodeVoid {
		return nil, nil
	}
	var args []int
	for _, kid := range kids {
		place, bad := r.written(kid)
		if bad != nil {
			return nil, bad
		}
		args = append(args, place)
	}
	return args, nil
}

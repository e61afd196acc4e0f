package engine

import (
	"slices"

	"callbox/api"
	"callbox/xdr"
)

// reading is what an operation does backward: it stands at a place, and reads a value that stands at a depth.
type reading func(at, depth int) api.Value

// reader runs entries backward.
type reader struct {
	core
	in   *xdr.Reader
	does []reading
}

func newReader(c api.Code, s string, fuel int) *reader {
	in := xdr.NewReader(s)
	wrong := func() bool { return in.Wrong() != api.OK }
	r := &reader{core: newCore(c, fuel, in.Fail, wrong), in: in}
	r.does = r.readings()
	return r
}

// readings are what all operations do, each at its number.
func (r *reader) readings() []reading {
	return []reading{
		api.OpEnd:    r.nothing,
		api.OpVoid:   r.nothing,
		api.OpInt:    r.number(r.in.Int),
		api.OpUint:   r.number(r.in.Uint),
		api.OpHyper:  r.number(r.in.Hyper),
		api.OpUhyper: r.number(r.in.Hyper),
		api.OpFloat:  r.single,
		api.OpDouble: r.double,
		api.OpBool:   r.number(r.truth),
		api.OpEnum:   r.enum,
		api.OpFixed:  r.text(r.in.Fixed),
		api.OpOpaque: r.text(r.in.Opaque),
		api.OpString: r.text(r.in.Opaque),
		api.OpArray:  r.array,
		api.OpList:   r.list,
		api.OpMaybe:  r.maybe,
		api.OpStruct: r.structure,
		api.OpCall:   r.call,
		api.OpUnion:  r.union,
	}
}

func (r *reader) run(entry, depth int) api.Value {
	r.reach(depth)
	v := r.do(entry, depth)
	r.do(r.endOf(entry), depth)
	return v
}

func (r *reader) do(at, depth int) api.Value {
	if !r.begin() {
		return api.Value{}
	}
	read := r.does[r.ops[at].Code]
	return read(at, depth)
}

func (r *reader) nothing(int, int) api.Value { return api.Value{Kind: api.Void} }

// number is what an operation of whole numbers does: how they are read.
func (r *reader) number(read func() int) reading {
	return func(at, _ int) api.Value { return api.Value{Kind: r.kindAt(at), Int: read()} }
}

func (r *reader) truth() int {
	if r.in.Bool() {
		return 1
	}
	return 0
}

func (r *reader) single(int, int) api.Value {
	return api.Value{Kind: api.Float, Single: r.in.Float()}
}

func (r *reader) double(int, int) api.Value {
	return api.Value{Kind: api.Double, Double: r.in.Double()}
}

func (r *reader) enum(at, _ int) api.Value {
	n := r.in.Int()
	if !slices.Contains(r.ops[at].T, n) {
		r.fail(api.ErrEngineCase)
	}
	return api.Value{Kind: api.Enum, Int: n}
}

// text is what an operation of bytes does: how they are read, by their size.
func (r *reader) text(read func(int) string) reading {
	return func(at, _ int) api.Value {
		return api.Value{Kind: r.kindAt(at), Text: read(r.ops[at].A)}
	}
}

func (r *reader) array(at, depth int) api.Value {
	return r.some(at, r.ops[at].A, depth+1)
}

func (r *reader) list(at, depth int) api.Value {
	return r.some(at, r.in.Count(r.ops[at].A), depth+1)
}

func (r *reader) maybe(at, depth int) api.Value {
	return r.some(at, r.truth(), depth+1)
}

// some runs the entry that an operation names n times. Bytes may say that there are far more Items than they have: so no room is made for these ahead, and what is wrong ends them.
func (r *reader) some(at, n, depth int) api.Value {
	v := api.Value{Kind: r.kindAt(at)}
	for i := 0; i < n && !r.wrong(); i++ {
		v.Items = append(v.Items, r.run(r.ops[at].B, depth))
	}
	return v
}

func (r *reader) structure(at, depth int) api.Value {
	v := api.Value{Kind: api.Struct}
	r.reach(depth + 1)
	for i := range r.ops[at].A {
		v.Items = append(v.Items, r.do(at+1+i, depth+1))
	}
	return v
}

func (r *reader) call(at, depth int) api.Value { return r.run(r.ops[at].B, depth) }

func (r *reader) union(at, depth int) api.Value {
	op := r.ops[at]
	v := api.Value{Kind: api.Union, Int: r.run(op.B, depth).Int}
	arm := armOf(op, v.Int)
	if arm == noArm {
		r.fail(api.ErrEngineCase)
		return api.Value{}
	}
	v.Items = []api.Value{r.run(arm, depth+1)}
	return v
}

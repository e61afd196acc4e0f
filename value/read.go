package value

import (
	"callbox/api"
	"callbox/xdr"
)

// reader reads values. What is wrong first is kept by the Reader below, which takes nothing behind that.
type reader struct {
	kinds kinds
	in    *xdr.Reader
}

func (r reader) read(place, depth int) api.Value {
	if depth > api.MaxDeep {
		r.in.Fail(api.ErrValueDeep)
		return api.Value{}
	}
	k := r.kinds[place]
	v, parts := r.readFront(k)
	if !r.kinds.stands(k, v.Int) {
		r.in.Fail(api.ErrValueCase)
	}
	// A text may say that there are far more parts than it has, so there is no room made for them ahead.
	for i := 0; i < parts && r.in.Wrong() == api.OK; i++ {
		v.Items = append(v.Items, r.read(typeOfPart(k, v, i), depth+1))
	}
	return v
}

// readFront reads what stands ahead of a value's parts, and tells how many of these there are.
func (r reader) readFront(k kind) (v api.Value, parts int) {
	switch k := k.(type) {
	case integer, enum:
		v.Int = r.in.Int()
	case word:
		v.Int = r.in.Uint()
	case hyper:
		v.Int = r.in.Hyper()
	case single:
		v.Single = r.in.Float()
	case double:
		v.Double = r.in.Double()
	case truth:
		v.Int = count(r.in.Bool())
	case fixed:
		v.Text = r.in.Fixed(k.size)
	case text:
		v.Text = r.in.Opaque(k.most)
	case array:
		parts = k.size
	case list:
		parts = r.in.Count(k.most)
	case maybe:
		parts = count(r.in.Bool())
	case structure:
		parts = len(k.fields)
	case union:
		v, _ = r.readFront(r.kinds[k.of])
		parts = 1
	}
	v.Kind = k.number()
	return v, parts
}

func count(b bool) int {
	if b {
		return 1
	}
	return 0
}

package value

import (
	"callbox/api"
	"callbox/xdr"
)

// writer lays values down, and finds what is wrong with them on the way. Too many bytes are told in the end: what is wrong with a part behind them goes ahead of that.
type writer struct {
	kinds kinds
	out   *xdr.Writer
}

func (w writer) lay(place int, v api.Value) api.Errno {
	k := w.kinds[place]
	if !hasNoMore(k, v) || !w.kinds.hasEnough(k, v) {
		return api.ErrValueType
	}
	if !w.kinds.stands(k, v.Int) {
		return api.ErrValueCase
	}
	w.layFront(k, v)
	for i, part := range v.Items {
		if e := w.lay(typeOfPart(k, v, i), part); e != api.OK {
			return e
		}
	}
	return api.OK
}

// hasNoMore: is v of a kind, and nothing in it that this has not?
func hasNoMore(k kind, v api.Value) bool {
	switch k.(type) {
	case integer, word, hyper, truth, enum:
		v.Int = 0
	case single:
		v.Single = 0
	case double:
		v.Double = 0
	case fixed, text:
		v.Text = ""
	case array, list, maybe, structure:
		v.Items = nil
	case union:
		v.Int, v.Items = 0, nil
	}
	return Same(v, api.Value{Kind: k.number()})
}

// hasEnough: has v what a kind wants, but for what its parts are, and what its number stands for?
func (all kinds) hasEnough(k kind, v api.Value) bool {
	switch k := k.(type) {
	case fixed:
		return len(v.Text) == k.size
	case text:
		return len(v.Text) <= k.most
	case array:
		return len(v.Items) == k.size
	case list:
		return len(v.Items) <= k.most
	case maybe:
		return len(v.Items) <= 1
	case structure:
		return len(v.Items) == len(k.fields)
	case union:
		return len(v.Items) == 1 && inRange(all[k.of], v.Int)
	}
	return inRange(k, v.Int)
}

// layFront lays down what stands ahead of a value's parts.
func (w writer) layFront(k kind, v api.Value) {
	switch k := k.(type) {
	case integer, enum:
		w.out.Int(v.Int)
	case word:
		w.out.Uint(v.Int)
	case hyper:
		w.out.Hyper(v.Int)
	case single:
		w.out.Float(v.Single)
	case double:
		w.out.Double(v.Double)
	case truth:
		w.out.Bool(v.Int == 1)
	case fixed:
		w.out.Fixed(k.size, v.Text)
	case text:
		w.out.Opaque(k.most, v.Text)
	case list:
		w.out.Count(k.most, len(v.Items))
	case maybe:
		w.out.Bool(len(v.Items) == 1)
	case union:
		w.layFront(w.kinds[k.of], v)
	}
}

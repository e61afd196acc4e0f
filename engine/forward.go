package engine

import (
	"math"
	"slices"

	"callbox/api"
	"callbox/real"
	"callbox/xdr"
)

// laying is what an operation does forward: it stands at a place, and lays down a value that stands at a depth.
type laying func(at int, v api.Value, depth int)

// writer runs entries forward.
type writer struct {
	core
	out  *xdr.Writer
	does []laying
}

func newWriter(c api.Code, fuel int) *writer {
	out := xdr.NewWriter(api.MaxBytes)
	wrong := func() bool {
		_, e := out.Done()
		return e != api.OK
	}
	w := &writer{core: newCore(c, fuel, out.Fail, wrong), out: out}
	w.does = w.layings()
	return w
}

// layings are what all operations do, each at its number.
func (w *writer) layings() []laying {
	return []laying{
		api.OpEnd:    w.nothing,
		api.OpVoid:   w.void,
		api.OpInt:    w.number(isInt, w.out.Int),
		api.OpUint:   w.number(isWord, w.out.Uint),
		api.OpHyper:  w.number(isHyper, w.out.Hyper),
		api.OpUhyper: w.number(isHyper, w.out.Hyper),
		api.OpFloat:  w.single,
		api.OpDouble: w.double,
		api.OpBool:   w.number(isTruth, w.truth),
		api.OpEnum:   w.enum,
		api.OpFixed:  w.fixed,
		api.OpOpaque: w.text,
		api.OpString: w.text,
		api.OpArray:  w.array,
		api.OpList:   w.list,
		api.OpMaybe:  w.maybe,
		api.OpStruct: w.structure,
		api.OpCall:   w.call,
		api.OpUnion:  w.union,
	}
}

func (w *writer) run(entry int, v api.Value, depth int) {
	w.reach(depth)
	w.do(entry, v, depth)
	w.do(w.endOf(entry), v, depth)
}

func (w *writer) do(at int, v api.Value, depth int) {
	if w.begin() {
		lay := w.does[w.ops[at].Code]
		lay(at, v, depth)
	}
}

// want refuses a value that is none of the operation at a place: what that has was asked, and is taken out of v; nothing else may be in it.
func (w *writer) want(at int, v api.Value, is bool) bool {
	is = is && v.Kind == w.kindAt(at) && v.Int == 0 && v.Text == "" && len(v.Items) == 0 &&
		real.Same32(v.Single, 0) && real.Same64(v.Double, 0)
	if !is {
		w.fail(api.ErrEngineValue)
	}
	return is
}

// wantItems likewise, of one that has so many Items.
func (w *writer) wantItems(at int, v api.Value, least, most int) bool {
	n := len(v.Items)
	v.Items = nil
	return w.want(at, v, least <= n && n <= most)
}

func (w *writer) nothing(int, api.Value, int) {}

func (w *writer) void(at int, v api.Value, _ int) { w.want(at, v, true) }

// number is what an operation of whole numbers does: which ones may be, how they are laid down.
func (w *writer) number(may func(int) bool, lay func(int)) laying {
	return func(at int, v api.Value, _ int) {
		n := v.Int
		v.Int = 0
		if w.want(at, v, may(n)) {
			lay(n)
		}
	}
}

func (w *writer) truth(n int) { w.out.Bool(n == 1) }

func (w *writer) single(at int, v api.Value, _ int) {
	f := v.Single
	v.Single = 0
	if w.want(at, v, true) {
		w.out.Float(f)
	}
}

func (w *writer) double(at int, v api.Value, _ int) {
	f := v.Double
	v.Double = 0
	if w.want(at, v, true) {
		w.out.Double(f)
	}
}

func (w *writer) enum(at int, v api.Value, _ int) {
	n := v.Int
	v.Int = 0
	if !w.want(at, v, isInt(n)) {
		return
	}
	if !slices.Contains(w.ops[at].T, n) {
		w.fail(api.ErrEngineCase)
	}
	w.out.Int(n)
}

func (w *writer) fixed(at int, v api.Value, _ int) {
	size, s := w.ops[at].A, v.Text
	v.Text = ""
	if w.want(at, v, len(s) == size) {
		w.out.Fixed(size, s)
	}
}

func (w *writer) text(at int, v api.Value, _ int) {
	most, s := w.ops[at].A, v.Text
	v.Text = ""
	if w.want(at, v, len(s) <= most) {
		w.out.Opaque(most, s)
	}
}

func (w *writer) array(at int, v api.Value, depth int) {
	op := w.ops[at]
	if w.wantItems(at, v, op.A, op.A) {
		w.each(op.B, v.Items, depth+1)
	}
}

func (w *writer) list(at int, v api.Value, depth int) {
	op := w.ops[at]
	if w.wantItems(at, v, 0, op.A) {
		w.out.Count(op.A, len(v.Items))
		w.each(op.B, v.Items, depth+1)
	}
}

func (w *writer) maybe(at int, v api.Value, depth int) {
	if w.wantItems(at, v, 0, 1) {
		w.out.Bool(len(v.Items) == 1)
		w.each(w.ops[at].B, v.Items, depth+1)
	}
}

// each runs one entry over values. There may be far more of them than there is room for: so what is wrong ends them.
func (w *writer) each(entry int, items []api.Value, depth int) {
	for i := 0; i < len(items) && !w.wrong(); i++ {
		w.run(entry, items[i], depth)
	}
}

func (w *writer) structure(at int, v api.Value, depth int) {
	fields := w.ops[at].A
	if !w.wantItems(at, v, fields, fields) {
		return
	}
	w.reach(depth + 1)
	for i, item := range v.Items {
		w.do(at+1+i, item, depth+1)
	}
}

func (w *writer) call(at int, v api.Value, depth int) { w.run(w.ops[at].B, v, depth) }

func (w *writer) union(at int, v api.Value, depth int) {
	op, n := w.ops[at], v.Int
	v.Int = 0
	if !w.wantItems(at, v, 1, 1) {
		return
	}
	w.run(op.B, api.Value{Kind: w.kindAt(op.B), Int: n}, depth)
	arm := armOf(op, n)
	if arm == noArm {
		w.fail(api.ErrEngineCase)
		return
	}
	w.run(arm, v.Items[0], depth+1)
}

func isInt(n int) bool { return math.MinInt32 <= n && n <= math.MaxInt32 }

func isWord(n int) bool { return 0 <= n && n <= api.MaxWord }

func isHyper(int) bool { return true }

func isTruth(n int) bool { return n == 0 || n == 1 }

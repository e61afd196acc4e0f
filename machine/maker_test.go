package machine_test

import (
	"math"
	"math/rand"
	"slices"
	"strings"

	"callbox/api"
	"callbox/schema"
	"callbox/value"
)

// sources say programs of which machines are made.
var sources = []string{
	source,
	kinds,
	"program P { version V { void N(void) = 0; } = 1; version W { void A(void) = 3; bool B(bool) = 1; void N(void) = 0; } = 2; } = 1;",
	"struct list { list *next; }; typedef list lists<>; program P { version V { list A(list, list) = 2; lists B(lists) = 1; void C(list, lists, list, lists) = 7; } = 0; } = 4294967295;",
	"typedef opaque a<>; typedef a b<>; typedef b c<>; program P { version V { c A(a, b) = 1; a B(c, c) = 2; } = 1; } = 1; program Q { version V { b A(b, a) = 1; } = 1; version W { hyper Z(hyper) = 9; } = 2; } = 2;",
	"enum e { A = 1, B = 2 }; union u switch (e d) { case A: u more<>; default: e last; }; program P { version V { u A(u) = 1; e B(e, u, e) = 2; } = 1; } = 1;",
	"union w switch (unsigned int d) { case 4294967295: hyper h; case 0: void; default: w *rest; }; typedef w many[3]; program P { version V { w A(w, w, w) = 1; many B(many, bool) = 5; double C(double) = 3; float D(float) = 4; } = 1; } = 1;",
}

// maker makes tables, values and calls of a version.
type maker struct {
	r          *rand.Rand
	x          api.Schema
	prog, vers int
	procs      []api.Proc
	left       int // how many more values may have parts of their own choice
}

func pick[T any](r *rand.Rand, list ...T) T { return list[r.Intn(len(list))] }

func newMaker(r *rand.Rand) *maker {
	x, _, _ := schema.Compile(pick(r, sources...))
	p := pick(r, x.Programs...)
	v := pick(r, p.Versions...)
	return &maker{r: r, x: x, prog: p.Number, vers: v.Number, procs: v.Procs}
}

func (m *maker) value(place int) api.Value {
	y := m.x.Types[place]
	v := api.Value{Kind: y.Kind}
	switch y.Kind {
	case api.Int, api.Uint, api.Hyper, api.Uhyper, api.Bool, api.Enum:
		v.Int = m.number(y)
	case api.Float:
		v.Single = pick(m.r, 0, 1, float32(math.Copysign(0, -1)), math.Float32frombits(0x7fc00000+uint32(m.r.Intn(3))))
	case api.Double:
		v.Double = pick(m.r, 0, 1, math.Copysign(0, -1), math.Float64frombits(0xfff8<<48+uint64(m.r.Intn(3))))
	case api.Fixed:
		v.Text = strings.Repeat(pick(m.r, "a", "b", "\x00"), y.Size)
	case api.Opaque, api.String:
		v.Text = strings.Repeat(pick(m.r, "a", "\x00"), min(y.Size, pick(m.r, 0, 1, 1, 4, 5, m.r.Intn(500), m.r.Intn(1010))))
	case api.Array:
		v.Items = m.some(y.Size, y.Of)
	case api.List:
		v.Items = m.some(m.few(min(y.Size, pick(m.r, 1, 2, 2, 40))), y.Of)
	case api.Maybe:
		v.Items = m.some(m.few(1), y.Of)
	case api.Struct:
		for _, f := range y.Fields {
			v.Items = append(v.Items, m.value(f.Type))
		}
	case api.Union:
		v.Int = m.number(m.x.Types[y.Of])
		arm := slices.IndexFunc(y.Arms, func(a api.Arm) bool { return slices.Contains(a.Cases, v.Int) })
		if arm < 0 {
			arm = max(y.Else, 0) // of a union without one this is no value
		}
		v.Items = m.some(1, y.Arms[arm].Type)
	}
	return v
}

func (m *maker) number(y api.Type) int {
	if y.Kind == api.Enum {
		return pick(m.r, y.Members...).Number
	}
	if y.Kind == api.Bool {
		return m.r.Intn(2)
	}
	if y.Kind == api.Uint && m.r.Intn(3) == 0 {
		return api.MaxWord
	}
	return m.r.Intn(2)
}

func (m *maker) some(n, place int) []api.Value {
	var l []api.Value
	for range n {
		l = append(l, m.value(place))
	}
	return l
}

func (m *maker) few(most int) int {
	m.left--
	if m.left < 0 {
		return 0
	}
	return m.r.Intn(most + 1)
}

func (m *maker) makeValue(place int) api.Value {
	m.left = pick(m.r, 0, 1, 2, 3, 10, 70)
	return m.value(place)
}

// makeArgs may be too long together.
func (m *maker) makeArgs(p api.Proc) []api.Value {
	var l []api.Value
	for _, place := range p.Args {
		l = append(l, m.makeValue(place))
	}
	return l
}

// makeTable is one, mostly.
func (m *maker) makeTable() api.Table {
	y := api.Table{States: pick(m.r, 1, 2, 2, 3, 3, 5, 64)}
	y.Start = m.r.Intn(y.States)
	for range pick(m.r, 0, 1, 2, 3, 5, 9, 20) {
		p := pick(m.r, m.procs...)
		if p.Number == 0 {
			continue
		}
		r := api.Row{State: m.r.Intn(min(y.States, 3)), Proc: p.Number, Args: m.makeArgs(p), To: m.r.Intn(min(y.States, pick(m.r, 3, 3, 3, 64))), Result: m.makeValue(p.Result)}
		y.Rows = append(y.Rows, r)
		if m.r.Intn(20) > 0 && !isTable(m.x, m.prog, m.vers, y) {
			y.Rows = y.Rows[:len(y.Rows)-1]
		}
	}
	return y
}

// nodes are a value and all within.
func nodes(v *api.Value) []*api.Value {
	all := []*api.Value{v}
	for i := range v.Items {
		all = append(all, nodes(&v.Items[i])...)
	}
	return all
}

// spoil changes a table in one place.
func (m *maker) spoil(y *api.Table) {
	odd := func(n int) int { return pick(m.r, n-1, n+1, -1, 0, 1, 64, 65, math.MaxInt, math.MinInt) }
	if len(y.Rows) == 0 || m.r.Intn(6) == 0 {
		if m.r.Intn(2) == 0 {
			y.States = odd(y.States)
		} else {
			y.Start = odd(y.Start)
		}
		return
	}
	r := &y.Rows[m.r.Intn(len(y.Rows))]
	switch m.r.Intn(9) {
	case 0:
		r.State = odd(r.State)
	case 1:
		r.To = odd(r.To)
	case 2:
		r.Proc = odd(r.Proc)
	case 3:
		r.Args = append(slices.Clone(r.Args), m.makeValue(m.r.Intn(len(m.x.Types))))
	case 4:
		r.Args = r.Args[:len(r.Args)/2]
	case 5:
		*r = y.Rows[m.r.Intn(len(y.Rows))]
	case 6:
		y.Rows = slices.Repeat(y.Rows, 201)[:pick(m.r, 199, 200, 201)]
	default:
		v := &r.Result
		if len(r.Args) > 0 && m.r.Intn(2) == 0 {
			v = &r.Args[m.r.Intn(len(r.Args))]
		}
		one := pick(m.r, nodes(v)...)
		switch m.r.Intn(4) {
		case 0:
			one.Kind = m.r.Intn(18)
		case 1:
			one.Int = pick(m.r, 0, 1, 2, -1, 1<<31, 1<<32)
		case 2:
			one.Text += "x"
		case 3:
			one.Items = append(slices.Clone(one.Items), api.Value{})
		}
	}
}

// request is a call of a procedure.
type request struct {
	proc int
	args string
}

// lay is values as bytes; what is no value has none.
func (m *maker) lay(p api.Proc, l []api.Value) string {
	s := ""
	for i, v := range l {
		if i < len(p.Args) {
			one, _ := value.Encode(m.x, p.Args[i], v)
			s += one
		}
	}
	return s
}

// makeRequest is mostly one that a row is for.
func (m *maker) makeRequest(y api.Table) request {
	p := pick(m.r, m.procs...)
	l := m.makeArgs(p)
	if len(y.Rows) > 0 && m.r.Intn(4) > 0 {
		r := pick(m.r, y.Rows...)
		p, _ = schema.Proc(m.x, m.prog, m.vers, r.Proc)
		l = r.Args
	}
	q := request{p.Number, m.lay(p, l)}
	switch m.r.Intn(12) {
	case 0:
		q.proc = pick(m.r, q.proc-1, q.proc+1, 0, -1, 1<<32, pick(m.r, m.procs...).Number)
	case 1:
		q.args = q.args[:len(q.args)-min(len(q.args), pick(m.r, 1, 4, 4, 8))]
	case 2:
		q.args += pick(m.r, "a", "abcd", four(0), four(1), strings.Repeat(four(1), 250))
	case 3, 4:
		if at := m.r.Intn(len(q.args) + 1); at < len(q.args) {
			q.args = q.args[:at] + pick(m.r, "\x00", "\x01", "\x02", "\xff", "a") + q.args[at+1:]
		}
	}
	return q
}

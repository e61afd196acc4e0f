package portmap_test

import (
	"math/rand"
	"slices"
	"testing"

	"callbox/api"
	"callbox/codec"
	"callbox/engine"
	"callbox/portmap"
	"callbox/schema"
	"callbox/value"
)

// wantAsList takes steps with maps and a list.
func wantAsList(t *testing.T, steps []step, seen map[string]int) {
	t.Helper()
	p := newTrio(seen)
	for i, s := range steps {
		if wrong := p.play(s); wrong != "" {
			t.Fatalf("at the step %d of %v: %s", i, steps, wrong)
		}
	}
}

// TestAllShortRuns is O5: whatever four steps there are, of few numbers, some of them through the service.
func TestAllShortRuns(t *testing.T) {
	r := rand.New(rand.NewSource(4))
	each := []step{{proc: 4}, {proc: 1, x: mapping(7, 2, 17, 0)}}
	for _, x := range mappings(mapping(7, 2, 17, 9), mapping(7, 2, 6, 8), mapping(7, 3, 17, 9)) {
		for proc := 1; proc <= 3; proc++ {
			each = append(each, step{proc: proc, x: x})
		}
	}
	var run func(steps []step, left int)
	run = func(steps []step, left int) {
		if left == 0 {
			wantAsList(t, steps, map[string]int{})
			return
		}
		for _, s := range each {
			s.way = pick(r, byCall, byCall, byCall, byCall, byHandle, byRegistry)
			run(append(steps, s), left-1)
		}
	}
	run(make([]step, 0, 4), 4)
}

func pick(r *rand.Rand, numbers ...int) int { return numbers[r.Intn(len(numbers))] }

// makeStep is mostly of few programs and versions.
func makeStep(r *rand.Rand, programs, versions int) step {
	s := step{way: r.Intn(ways), proc: pick(r, 1, 1, 1, 1, 1, 1, 1, 2, 3, 3, 3, 4)}
	if r.Intn(20) == 0 {
		s.raw, s.proc = true, pick(r, -1, 0, 1, 2, 3, 4, 5)
		s.args = string(make([]byte, pick(r, 1, 4, 15, 17, 20, 1000, 1004)))
		return s
	}
	s.x = mapping(r.Intn(programs), r.Intn(versions), pick(r, 6, 17), 1+r.Intn(65535))
	odd := func() int { return edges[r.Intn(len(edges))] }
	switch r.Intn(40) {
	case 0:
		s.x.Prog = odd()
	case 1:
		s.x.Vers = odd()
	case 2:
		s.x.Prot = odd()
	case 3:
		s.x.Port = odd()
	case 4:
		s.x = mapping(odd(), odd(), odd(), odd())
	}
	return s
}

// TestLongRuns is O5: after each of many steps, what a list has; and runs come to whatever may be told, often.
func TestLongRuns(t *testing.T) {
	r := rand.New(rand.NewSource(21))
	seen := map[string]int{}
	for range 60 {
		programs, versions := 1+r.Intn(8), 1+r.Intn(8)
		var steps []step
		for range 200 {
			steps = append(steps, makeStep(r, programs, versions))
		}
		wantAsList(t, steps, seen)
	}
	for _, kind := range []string{"proc 1 0", "proc 1 1", "proc 2 0", "proc 2 1", "proc 3 0", "proc 3 2", "proc 4 0", "raw 4", "raw 5", "length 0", "length 1", "length 29", "length 30"} {
		if seen[kind] < 50 {
			t.Errorf("%s is seen %d times only", kind, seen[kind])
		}
	}
}

// spoken are the source's types, as a schema and as a code.
type spoken struct {
	schema     api.Schema
	code       api.Code
	item, list int
}

func newSpoken(t testing.TB) spoken {
	x, e, _ := schema.Compile(portmap.Source())
	if e != api.OK {
		t.Fatalf("Compile: %d", e)
	}
	c, e := codec.Lower(x)
	if e != api.OK {
		t.Fatalf("Lower: %d", e)
	}
	item, _ := schema.Find(x, "mapping")
	list, _ := schema.Find(x, "list")
	return spoken{x, c, item, list}
}

// both lays a value down by layer 6 and by layer 9.
func (x spoken) both(t *testing.T, place int, v api.Value) string {
	t.Helper()
	s, e := value.Encode(x.schema, place, v)
	if e != api.OK {
		t.Fatalf("value.Encode of %v: %d", v, e)
	}
	if o, _, e := engine.Encode(x.code, place, v, 100000); e != api.OK || o != s {
		t.Fatalf("engine.Encode of %v: %q, %d, not %q", v, o, e, s)
	}
	return s
}

func word(n int) api.Value { return api.Value{Kind: api.Uint, Int: n} }

func parts(kind int, l ...api.Value) api.Value { return api.Value{Kind: kind, Items: l} }

func itemOf(x api.Mapping) api.Value {
	return parts(api.Struct, word(x.Prog), word(x.Vers), word(x.Prot), word(x.Port))
}

// listOf is the value of a list, from the front.
func listOf(l []api.Mapping) api.Value {
	if len(l) == 0 {
		return parts(api.Maybe)
	}
	return parts(api.Maybe, parts(api.Struct, itemOf(l[0]), listOf(l[1:])))
}

// TestLaidDown is O5: what is laid down is what the layers 6 and 9 lay down by the source.
func TestLaidDown(t *testing.T) {
	x := newSpoken(t)
	r := rand.New(rand.NewSource(9))
	for n := range 200 {
		m := portmap.New()
		for range r.Intn(40) {
			m.Set(mapping(r.Intn(20), r.Intn(1<<32), pick(r, 6, 17), 1+r.Intn(65535)))
		}
		s := m.Service()
		l := m.Dump()
		wantHandle(t, s, 4, "", api.Success, x.both(t, x.list, listOf(l)))
		wantListed(t, x.both(t, x.list, listOf(l)), l, api.OK)
		one := mapping(r.Intn(1<<32), n, r.Intn(1<<32), r.Intn(1<<32))
		if len(l) > 0 && n%2 == 0 {
			one = l[r.Intn(len(l))]
		}
		args := x.both(t, x.item, itemOf(one))
		wantArgs(t, one, args, api.OK)
		port := x.both(t, api.Uint, word(m.Port(one.Prog, one.Vers, one.Prot)))
		wantHandle(t, s, 3, args, api.Success, port)
		is := slices.ContainsFunc(l, func(y api.Mapping) bool { return y.Prog == one.Prog && y.Vers == one.Vers })
		wantHandle(t, s, 2, args, api.Success, x.both(t, api.Bool, api.Value{Kind: api.Bool, Int: number(is)}))
		may := len(m.Dump()) < 30 && (one.Prot == 6 || one.Prot == 17) && one.Port > 0 && one.Port < 65536
		wantHandle(t, s, 1, args, api.Success, x.both(t, api.Bool, api.Value{Kind: api.Bool, Int: number(may)}))
	}
}

// listed is what layer 6 reads of bytes as a list.
func (x spoken) listed(s string) ([]api.Mapping, api.Errno) {
	v, e := value.Decode(x.schema, x.list, s)
	if e != api.OK {
		return nil, api.ErrPortmapForm
	}
	var l []api.Mapping
	for ; len(v.Items) > 0; v = v.Items[0].Items[1] {
		four := v.Items[0].Items[0].Items
		l = append(l, mapping(four[0].Int, four[1].Int, four[2].Int, four[3].Int))
	}
	return l, api.OK
}

// TestListedAsRead is O4: of lists whose bytes were bent, cut and moved, what layer 6 reads.
func TestListedAsRead(t *testing.T) {
	x := newSpoken(t)
	r := rand.New(rand.NewSource(6))
	read := 0
	for range 4000 {
		var l []api.Mapping
		for range r.Intn(pick(r, 2, 5, 34)) {
			l = append(l, mapping(r.Intn(3), r.Intn(1<<32), r.Intn(2), r.Intn(2)))
		}
		s := []byte(laidAll(l))
		for range r.Intn(3) {
			switch at := r.Intn(len(s) + 1); r.Intn(4) {
			case 0:
				s = append(s[:at:at], append([]byte(no)[:pick(r, 4, 4, 4, 1, 3)], s[at:]...)...)
			case 1:
				s = s[:at]
			case 2:
				s = append(s, s[at:]...)
			default:
				if at < len(s) {
					s[at] = byte(pick(r, 0, 1, 2, 255))
				}
			}
		}
		want, e := x.listed(string(s))
		wantListed(t, string(s), want, e)
		if e == api.OK {
			read++
		}
	}
	if read < 1000 || read > 3500 {
		t.Errorf("%d were read", read)
	}
}

// FuzzSteps takes four bytes for each step: how it is taken, and what it does; the program and the version; the protocol; the port.
func FuzzSteps(f *testing.F) {
	f.Add("\x01\x77\x11\x09" + "\x02\x77\x11\x09" + "\x0d\x77\x11\x09" + "\x09\x77\x06\x09" + "\x00\x00\x00\x00")
	f.Add("\x01\x12\x06\xff" + "\x03\x12\x07\x00" + "\x0f\x10\x06\x01" + "\x05\x10\x06\x01")
	f.Fuzz(func(t *testing.T, text string) {
		var steps []step
		for i := 0; i+3 < len(text) && len(steps) < 60; i += 4 {
			a, b, c, d := int(text[i]), int(text[i+1]), int(int8(text[i+2])), int(int8(text[i+3]))
			s := step{way: a & 3 % ways, proc: 1 + a>>2&3, x: mapping(b&15, b>>4-1, c, 600*d)}
			if a > 240 {
				s.raw, s.proc, s.args = true, a&7, text[i+1:i+2]
			}
			steps = append(steps, s)
		}
		wantAsList(t, steps, map[string]int{})
	})
}

// FuzzListed looks for bytes of which Listed tells otherwise than layer 6, and Heard otherwise than four bytes are a number.
func FuzzListed(f *testing.F) {
	f.Add(no)
	f.Add(laidAll(mappings(mapping(7, 2, 17, 2000))))
	f.Add(yes + laid(mapping(7, 2, 17, 2000)))
	x := newSpoken(f)
	f.Fuzz(func(t *testing.T, s string) {
		want, e := x.listed(s)
		wantListed(t, s, want, e)
		n, e := portmap.Heard(s)
		if len(s) != 4 && (n != 0 || e != api.ErrPortmapForm) || len(s) == 4 && (four(n) != s || e != api.OK || !isWord(n)) {
			t.Errorf("Heard(%q) = %d, %d", s, n, e)
		}
	})
}

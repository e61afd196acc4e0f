package engine_test

import (
	"math/rand"
	"slices"
	"testing"

	"callbox/api"
	"callbox/codec"
	"callbox/engine"
	"callbox/value"
)

// sizeOf is how many values there are in one, itself too.
func sizeOf(v api.Value) int {
	n := 1
	for _, part := range v.Items {
		n += sizeOf(part)
	}
	return n
}

// someFuels are those around what is needed, and others.
func someFuels(r *rand.Rand, needed int) []int {
	return []int{needed, needed - 1, r.Intn(needed + 1), needed + r.Intn(needed+2), pick(r, -1, 0, plenty)}
}

// checkPack holds what is told of values against the model, and tells what is with fuel enough.
func checkPack(t *testing.T, r *rand.Rand, c api.Code, entries []int, l []api.Value) (string, api.Errno) {
	t.Helper()
	o := modelPack(c, entries, l)
	for _, fuel := range someFuels(r, o.done) {
		left, e := o.with(fuel)
		s := o.s
		if e != api.OK {
			s = ""
		}
		if len(l) == 1 && len(entries) == 1 && r.Intn(2) == 0 {
			wantEncode(t, c, entries[0], l[0], fuel, s, left, e)
		} else {
			wantPack(t, c, entries, l, fuel, s, left, e)
		}
	}
	if t.Failed() {
		t.Fatal(short(c))
	}
	return o.s, o.e
}

// checkUnpack does the same of bytes.
func checkUnpack(t *testing.T, r *rand.Rand, c api.Code, entries []int, s string) ([]api.Value, api.Errno) {
	t.Helper()
	o := modelUnpack(c, entries, s)
	for _, fuel := range someFuels(r, o.done) {
		left, e := o.with(fuel)
		l, v := o.l, api.Value{}
		if e != api.OK {
			l = nil
		} else if len(l) > 0 {
			v = l[0]
		}
		if len(entries) == 1 && r.Intn(2) == 0 {
			wantDecode(t, c, entries[0], s, fuel, v, left, e)
		} else {
			wantUnpack(t, c, entries, s, fuel, l, left, e)
		}
	}
	if t.Failed() {
		t.Fatal(short(c))
	}
	return o.l, o.e
}

// checkEncode is N5's first half: of a type, and of a value that may be none of it, against chapter 6's.
func checkEncode(t *testing.T, r *rand.Rand, x api.Schema, c api.Code, at int, v api.Value) api.Errno {
	t.Helper()
	want, refused := value.Encode(x, at, v)
	enough := 5 * sizeOf(v)
	s, left, e := engine.Encode(c, at, v, enough)
	if s != want || (e == api.OK) != (refused == api.OK) {
		t.Fatalf("%s: type %d: %s: %q, %d, not %q, %d", short(x.Types), at, short(v), s, e, want, refused)
	}
	if e != api.OK {
		if e == api.ErrEngineFuel {
			t.Fatalf("%s: type %d: %s: %d is too little", short(x.Types), at, short(v), enough)
		}
		return e
	}
	if len(s)%4 != 0 || len(s) > 1000 {
		t.Fatalf("%s: %d bytes", short(v), len(s))
	}
	needed := enough - left
	for range 2 {
		fuel := r.Intn(2 * enough)
		again, rest, e := engine.Encode(c, at, v, fuel)
		if fuel >= needed && (again != s || rest != fuel-needed || e != api.OK) || fuel < needed && (again != "" || rest != 0 || e != api.ErrEngineFuel) {
			t.Fatalf("%s: type %d: %s, which needs %d, with %d: %q, %d, %d", short(x.Types), at, short(v), needed, fuel, again, rest, e)
		}
	}
	if f := checkDecode(t, r, x, c, at, s); f != api.OK {
		t.Fatalf("%s: its bytes are refused: %d", short(v), f)
	}
	return api.OK
}

// told is what the engine says where chapter 6 says something else.
func told(e api.Errno) api.Errno {
	switch e {
	case api.ErrValueLong:
		return api.ErrXdrLong
	case api.ErrValueDeep:
		return api.ErrEngineDeep
	case api.ErrValueCase:
		return api.ErrEngineCase
	}
	return e
}

// checkDecode is its second half, of any bytes.
func checkDecode(t *testing.T, r *rand.Rand, x api.Schema, c api.Code, at int, s string) api.Errno {
	t.Helper()
	want, refused := value.Decode(x, at, s)
	if refused != api.OK {
		wantDecode(t, c, at, s, plenty, api.Value{}, 0, told(refused))
		if _, left, e := engine.Decode(c, at, s, r.Intn(40)); left != 0 || e != told(refused) && e != api.ErrEngineFuel {
			t.Fatalf("%q: %d left, %d, not %d", s, left, e, told(refused))
		}
		return refused
	}
	enough := 5 * sizeOf(want)
	v, left, e := engine.Decode(c, at, s, enough)
	if e != api.OK || !value.Same(v, want) || !alike(v, want) {
		t.Fatalf("%s: type %d: %q: %s, %d, not %s", short(x.Types), at, s, short(v), e, short(want))
	}
	if again, rest, e := engine.Encode(c, at, v, enough); again != s || rest != left || e != api.OK {
		t.Fatalf("%q: it is %q, %d, %d, once laid down", s, again, rest, e)
	}
	for range 2 {
		fuel := r.Intn(2 * enough)
		if fuel >= enough-left {
			wantDecode(t, c, at, s, fuel, want, fuel-(enough-left), api.OK)
		} else {
			wantDecode(t, c, at, s, fuel, api.Value{}, 0, api.ErrEngineFuel)
		}
	}
	return api.OK
}

func wantCame(t *testing.T, came map[api.Errno]int, least int, all ...api.Errno) {
	t.Helper()
	for _, e := range all {
		if came[e] < least {
			t.Errorf("%d came %d times", e, came[e])
		}
	}
}

// TestMadeValues is N1 and N5 of values that are right, or were.
func TestMadeValues(t *testing.T) {
	r := rand.New(rand.NewSource(1))
	came, kinds := map[api.Errno]int{}, map[int]int{}
	check := func(m *maker, at int, v api.Value) {
		t.Helper()
		e := checkEncode(t, r, m.x, m.c, at, v)
		if _, f := checkPack(t, r, m.c, []int{at}, []api.Value{v}); f != e {
			t.Fatalf("%s: %d, not %d", short(v), e, f)
		}
		came[e]++
	}
	for range 500 {
		m := newMaker(r)
		for range 8 {
			at := m.somewhere()
			v := m.makeValue(at)
			for _, one := range nodes(&v) {
				kinds[one.Kind]++
			}
			check(m, at, v)
			for range 3 {
				w := copied(v)
				for range 1 + r.Intn(2) {
					m.spoil(&w)
				}
				check(m, at, w)
			}
		}
	}
	wantCame(t, came, 30, api.OK, api.ErrEngineValue, api.ErrEngineCase, api.ErrEngineDeep, api.ErrXdrLong)
	for kind := range api.Union + 1 {
		if kinds[kind] < 150 {
			t.Errorf("the kind %d came %d times", kind, kinds[kind])
		}
	}
}

// TestMadeTexts is N2 and N5 of bytes that are right, or were, or never.
func TestMadeTexts(t *testing.T) {
	r := rand.New(rand.NewSource(2))
	came := map[api.Errno]int{}
	check := func(m *maker, at int, s string) {
		t.Helper()
		e := checkDecode(t, r, m.x, m.c, at, s)
		if _, f := checkUnpack(t, r, m.c, []int{at}, s); f != told(e) {
			t.Fatalf("%q: %d, not %d", s, e, f)
		}
		came[told(e)]++
	}
	for range 500 {
		m := newMaker(r)
		for range 8 {
			at := m.somewhere()
			s := m.bytesOf(at, m.makeValue(at))
			check(m, at, s)
			for range 4 {
				spoilt := s
				for range 1 + r.Intn(2) {
					spoilt = m.spoilText(spoilt)
				}
				check(m, at, spoilt)
			}
			check(m, at, m.anyText())
		}
	}
	wantCame(t, came, 100, api.OK, api.ErrEngineCase, api.ErrXdrLong, api.ErrXdrShort, api.ErrXdrMore, api.ErrXdrPad, api.ErrXdrBool)
	wantCame(t, came, 30, api.ErrEngineDeep, api.ErrXdrReal)
}

// TestMadeRows is N3, N4 and N5's last sentence: of several entries and values, some of them spoilt, lost or doubled.
func TestMadeRows(t *testing.T) {
	r := rand.New(rand.NewSource(3))
	came, texts := map[api.Errno]int{}, map[api.Errno]int{}
	for range 2500 {
		m := newMaker(r)
		var entries []int
		var l []api.Value
		for range r.Intn(5) {
			at := m.somewhere()
			entries, l = append(entries, at), append(l, m.makeValue(at))
		}
		s, e := checkPack(t, r, m.c, entries, l)
		came[e]++
		if e == api.OK {
			back, f := checkUnpack(t, r, m.c, entries, s)
			if f != api.OK || !allAlike(back, l) {
				t.Fatalf("%s: they are %s, %d, once read", short(l), short(back), f)
			}
			_, f = checkUnpack(t, r, m.c, entries, m.spoilText(s))
			texts[f]++
		}
		m.spoilRow(&entries, &l)
		_, e = checkPack(t, r, m.c, entries, l)
		came[e]++
		_, f := checkUnpack(t, r, m.c, entries, s)
		texts[f]++
	}
	wantCame(t, came, 100, api.OK, api.ErrEngineCode, api.ErrEngineValue)
	wantCame(t, came, 5, api.ErrEngineCase, api.ErrEngineDeep, api.ErrXdrLong)
	wantCame(t, texts, 100, api.OK, api.ErrEngineCode, api.ErrXdrShort, api.ErrXdrMore)
}

// spoilRow changes a row in one place.
func (m *maker) spoilRow(entries *[]int, l *[]api.Value) {
	if len(*entries) == 0 {
		*l = []api.Value{whole(1)}
		return
	}
	at := m.r.Intn(len(*entries))
	switch m.r.Intn(8) {
	case 0:
		*entries = slices.Delete(*entries, at, at+1)
	case 1:
		*l = slices.Delete(*l, at, at+1)
	case 2:
		*entries = append(*entries, (*entries)[at])
	case 3:
		*l = append(*l, (*l)[at])
	case 4:
		(*entries)[at] = pick(m.r, -1, len(m.c.Entries), len(m.c.Ops))
	case 5:
		(*entries)[at] = m.somewhere()
	default:
		(*l)[at] = copied((*l)[at])
		m.spoil(&(*l)[at])
	}
}

// TestRowOfOnes: what Pack lays down is what Encode does, one behind the other, for as much fuel.
func TestRowOfOnes(t *testing.T) {
	r := rand.New(rand.NewSource(4))
	rows := 0
	for range 800 {
		m := newMaker(r)
		var entries []int
		var l []api.Value
		s, cost := "", 0
		for range 1 + r.Intn(4) {
			at := m.somewhere()
			v := m.makeValue(at)
			one, left, e := engine.Encode(m.c, at, v, plenty)
			if e == api.OK && len(s)+len(one) <= 1000 {
				entries, l, s, cost = append(entries, at), append(l, v), s+one, cost+plenty-left
			}
		}
		if len(l) > 1 {
			rows++
		}
		wantPack(t, m.c, entries, l, cost+9, s, 9, api.OK)
		wantUnpack(t, m.c, entries, s, cost+9, l, 9, api.OK)
	}
	if rows < 200 {
		t.Errorf("%d rows", rows)
	}
}

// TestSpoiltCodes: of codes that may not be, nothing but that is told; those that may be still are run as they are.
func TestSpoiltCodes(t *testing.T) {
	r := rand.New(rand.NewSource(5))
	came := map[bool]int{}
	for range 2500 {
		m := newMaker(r)
		c := copiedCode(m.c)
		m.spoilCode(&c)
		if !codec.Same(c, m.c) {
			came[codec.Right(c)]++
		}
		for range 3 {
			at := m.somewhere()
			v := m.makeValue(at)
			s, _, _ := engine.Encode(m.c, at, v, plenty)
			checkPack(t, r, c, []int{at}, []api.Value{v})
			checkUnpack(t, r, c, []int{at}, s)
		}
	}
	if came[true] < 200 || came[false] < 200 {
		t.Errorf("%v", came)
	}
}

// spoilCode changes a code in one place.
func (m *maker) spoilCode(c *api.Code) {
	op := &c.Ops[16+m.r.Intn(len(c.Ops)-16)]
	near := pick(m.r, c.Entries...)
	switch m.r.Intn(10) {
	case 0:
		op.Code = m.r.Intn(20)
	case 1:
		op.A = pick(m.r, -1, 0, 1, 2, 3, 65, 1001, near)
	case 2:
		op.B = pick(m.r, near, near, near+1, -1)
	case 3, 4:
		if len(op.T) > 0 {
			op.T[m.r.Intn(len(op.T))] = pick(m.r, 0, 1, 3, 9, near)
		}
	case 5:
		op.T = op.T[:max(0, len(op.T)-1-m.r.Intn(2))]
	case 6:
		c.Ops = c.Ops[:len(c.Ops)-1]
	case 7:
		c.Entries[m.r.Intn(len(c.Entries))] = near
	default:
		for i := range c.Ops {
			m.otherHead(&c.Ops[i])
		}
	}
}

// otherHead makes of an operation one of another kind that has the same parts.
func (m *maker) otherHead(op *api.Op) {
	switch op.Code {
	case api.OpFixed, api.OpOpaque, api.OpString:
		op.Code = pick(m.r, api.OpFixed, api.OpOpaque, api.OpString)
	case api.OpArray, api.OpList:
		op.Code = pick(m.r, api.OpArray, api.OpList)
	}
}

// TestAllTexts is N5, of types that have few values: just so many of all texts are taken as there are values, each as another one.
func TestAllTexts(t *testing.T) {
	x, c := coded(t, `
		enum e { A = 2, B = -1 };
		typedef bool *maybe;
		typedef e few<2>;
		typedef maybe two[2];
		struct s { e k; maybe m; };
		union u switch (e k) { case A: s s1; default: void; };
		union w switch (bool b) { case TRUE: few l; };
		typedef opaque o<1>;
		struct deep { deep *next; };`)
	words := []string{"\x00\x00\x00\x00", "\x00\x00\x00\x01", "\x00\x00\x00\x02", "\xff\xff\xff\xff", "\x01\x00\x00\x00"}
	all := []string{""}
	for from, most := 0, 4; most > 0; most-- {
		to := len(all)
		for _, s := range all[from:to] {
			for _, w := range words {
				all = append(all, s+w)
			}
		}
		from = to
	}
	r := rand.New(rand.NewSource(6))
	for _, w := range []struct {
		name string
		want int
	}{
		{"bool", 2}, {"e", 2}, {"maybe", 3}, {"few", 1 + 2 + 4}, {"two", 9}, {"s", 6}, {"u", 6 + 1}, {"w", 7},
		{"o", 1 + 2}, // of the words that are there, its one byte is 0 or 1
		{"deep", 4},  // those of at most four words
	} {
		at := place(t, x, w.name)
		var came []api.Value
		for _, s := range all {
			if checkDecode(t, r, x, c, at, s) == api.OK {
				v, _, _ := engine.Decode(c, at, s, plenty)
				if slices.ContainsFunc(came, func(w api.Value) bool { return alike(v, w) }) {
					t.Errorf("%s: two texts of %s", w.name, short(v))
				}
				came = append(came, v)
			}
		}
		if len(came) != w.want {
			t.Errorf("%s: %d texts are taken, not %d", w.name, len(came), w.want)
		}
	}
}

// TestLeast is P3, of the least value of each type.
func TestLeast(t *testing.T) {
	r := rand.New(rand.NewSource(7))
	for range 400 {
		m := newMaker(r)
		for at := range m.x.Types {
			v, _ := value.Least(m.x, at)
			if e := checkEncode(t, r, m.x, m.c, at, v); e != api.OK {
				t.Fatalf("%s: type %d: the least one is refused: %d", short(m.x.Types), at, e)
			}
		}
	}
}

// FuzzDecode looks for bytes that are read wrongly by the entries of a code.
func FuzzDecode(f *testing.F) {
	x, c := coded(f, source)
	for _, s := range samples {
		f.Add(place(f, x, s.name), s.want, s.cost)
	}
	f.Fuzz(func(t *testing.T, at int, s string, fuel int) {
		if at > len(x.Types) {
			at %= len(x.Types)
		}
		r := rand.New(rand.NewSource(int64(fuel)))
		o := modelUnpack(c, []int{at}, s)
		left, e := o.with(fuel)
		if e != api.OK {
			o.l = nil
		}
		wantUnpack(t, c, []int{at}, s, fuel, o.l, left, e)
		checkUnpack(t, r, c, []int{at}, s)
		if at >= 0 && at < len(x.Types) {
			checkDecode(t, r, x, c, at, s)
		}
	})
}

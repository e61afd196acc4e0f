package value_test

import (
	"math/rand"
	"slices"
	"strings"
	"testing"

	"callbox/api"
	"callbox/schema"
	"callbox/value"
)

// checkValue holds what is told of a value against the model, and against A6.
func checkValue(t *testing.T, x api.Schema, at int, v api.Value) api.Errno {
	t.Helper()
	want, wantE := modelEncode(x, at, v)
	s, e := value.Encode(x, at, v)
	if s != want || e != wantE {
		t.Fatalf("%s: type %d: %s: %q, %d, not %q, %d", short(x.Types), at, short(v), s, e, want, wantE)
	}
	if fits := value.Fits(x, at, v); fits != e {
		t.Fatalf("%s: type %d: %s: Fits: %d, not %d", short(x.Types), at, short(v), fits, e)
	}
	if d := value.Depth(v); d != modelDepth(v) {
		t.Fatalf("%s: %d deep", short(v), d)
	}
	if e != api.OK {
		return e
	}
	if len(s)%4 != 0 || len(s) > 1000 {
		t.Fatalf("%s: %d bytes", short(v), len(s))
	}
	if back := checkText(t, x, at, s); back != api.OK {
		t.Fatalf("%s: its bytes are refused: %d", short(v), back)
	}
	if again, _ := value.Decode(x, at, s); !value.Same(again, v) || !alike(again, v) {
		t.Fatalf("%s: it is %s, once read", short(v), short(again))
	}
	return api.OK
}

// checkText holds what is told of a text against the model, and against A6.
func checkText(t *testing.T, x api.Schema, at int, s string) api.Errno {
	t.Helper()
	want, wantE := modelDecode(x, at, s)
	v, e := value.Decode(x, at, s)
	if e != wantE || !alike(v, want) {
		t.Fatalf("%s: type %d: %q: %s, %d, not %s, %d", short(x.Types), at, s, short(v), e, short(want), wantE)
	}
	if e != api.OK {
		return e
	}
	if fits := value.Fits(x, at, v); fits != api.OK {
		t.Fatalf("%q: what is read is none: %d", s, fits)
	}
	if again, e := value.Encode(x, at, v); again != s || e != api.OK {
		t.Fatalf("%q: it is %q, %d, once laid down", s, again, e)
	}
	return api.OK
}

func checkLeast(t *testing.T, x api.Schema, at int) {
	t.Helper()
	want, wantE := modelLeast(x, at)
	v, e := value.Least(x, at)
	if e != wantE || !alike(v, want) {
		t.Fatalf("%s: type %d: %s, %d, not %s, %d", short(x.Types), at, short(v), e, short(want), wantE)
	}
	if e == api.OK && checkValue(t, x, at, v) != api.OK {
		t.Fatalf("%s: type %d: the least one is none", short(x.Types), at)
	}
}

func wantCame(t *testing.T, came map[api.Errno]int, least int, all ...api.Errno) {
	t.Helper()
	for _, e := range all {
		if came[e] < least {
			t.Errorf("%d came %d times", e, came[e])
		}
	}
}

// TestMadeValues is A1, A3 and A6 of values that are right, or were.
func TestMadeValues(t *testing.T) {
	r := rand.New(rand.NewSource(1))
	came, kinds := map[api.Errno]int{}, map[int]int{}
	for range 1500 {
		m := newMaker(r)
		for range 12 {
			at := m.somewhere()
			v := m.makeValue(at)
			for _, one := range nodes(&v) {
				kinds[one.Kind]++
			}
			came[checkValue(t, m.x, at, v)]++
			for range 3 {
				w := copied(v)
				for range 1 + r.Intn(2) {
					m.spoil(&w)
				}
				came[checkValue(t, m.x, at, w)]++
			}
		}
	}
	wantCame(t, came, 100, api.OK, api.ErrValueType, api.ErrValueDeep, api.ErrValueLong, api.ErrValueCase)
	for kind := range api.Union + 1 {
		if kinds[kind] < 1000 {
			t.Errorf("the kind %d came %d times", kind, kinds[kind])
		}
	}
}

// TestMadeTexts is A4 and A6 of bytes that are right, or were, or never.
func TestMadeTexts(t *testing.T) {
	r := rand.New(rand.NewSource(2))
	came := map[api.Errno]int{}
	for range 1500 {
		m := newMaker(r)
		for range 12 {
			at := m.somewhere()
			s := m.bytesOf(at, m.makeValue(at))
			came[checkText(t, m.x, at, s)]++
			for range 4 {
				spoilt := s
				for range 1 + r.Intn(2) {
					spoilt = m.spoilText(spoilt)
				}
				came[checkText(t, m.x, at, spoilt)]++
			}
			came[checkText(t, m.x, at, m.anyText())]++
		}
	}
	wantCame(t, came, 100, api.OK, api.ErrValueDeep, api.ErrValueLong, api.ErrValueCase, api.ErrXdrShort, api.ErrXdrMore, api.ErrXdrLong, api.ErrXdrPad, api.ErrXdrBool, api.ErrXdrReal)
}

// TestMadeLeast is A2 and A6 of each type of made schemas, and of places that are none.
func TestMadeLeast(t *testing.T) {
	r := rand.New(rand.NewSource(3))
	for range 1500 {
		m := newMaker(r)
		for at := -2; at < len(m.x.Types)+2; at++ {
			checkLeast(t, m.x, at)
		}
	}
}

// TestSpoiltSchemas: of schemas that may not be, nothing but that is told; of those that may be still, what the model tells.
func TestSpoiltSchemas(t *testing.T) {
	r := rand.New(rand.NewSource(4))
	wrong := 0
	for range 1500 {
		m := newMaker(r)
		y := api.Schema{Types: slices.Clone(m.x.Types), Names: m.x.Names}
		one := &y.Types[r.Intn(len(y.Types))]
		n := pick(r, -1, 0, 1, 7, 8, len(y.Types), 1001, api.MaxWord, api.MaxWord+1)
		switch r.Intn(8) {
		case 0:
			one.Kind = r.Intn(18)
		case 1:
			one.Size = n
		case 2:
			one.Of = n
		case 3:
			one.Else = pick(r, -1, 0, 1, 2)
		case 4:
			one.Members = nil
		case 5:
			one.Fields = append(slices.Clone(one.Fields), api.Field{Name: "g", Type: n})
		case 6:
			one.Arms = append(slices.Clone(one.Arms), api.Arm{Name: "g", Type: n})
		case 7:
			y.Types = y.Types[:r.Intn(len(y.Types))]
		}
		if !schema.Right(y) {
			wrong++
		}
		for at := range m.x.Types {
			v := m.makeValue(at)
			s, _ := value.Encode(m.x, at, v)
			checkValue(t, y, at, v)
			checkText(t, y, at, s)
			checkLeast(t, y, at)
		}
	}
	if wrong < 500 {
		t.Errorf("%d may not be", wrong)
	}
}

// TestSameOfMade is A5: Same against the model, of values that are nearly the same.
func TestSameOfMade(t *testing.T) {
	r := rand.New(rand.NewSource(5))
	came := map[bool]int{}
	for range 1500 {
		m := newMaker(r)
		for range 6 {
			a := m.makeValue(m.somewhere())
			b := copied(a)
			if !value.Same(a, b) {
				t.Fatalf("%s is not the same", short(a))
			}
			m.spoil(&b)
			if got := value.Same(a, b); got != alike(a, b) || got != value.Same(b, a) {
				t.Fatalf("%s, %s: %t", short(a), short(b), got)
			}
			came[alike(a, b)]++
		}
	}
	if came[true] < 500 || came[false] < 500 {
		t.Errorf("%v", came)
	}
}

// TestAllTexts is A6, of types that have few values: just so many of all texts are taken as there are values, each as another one.
func TestAllTexts(t *testing.T) {
	x := compiled(t, `
		enum e { A = 2, B = -1 };
		typedef bool *maybe;
		typedef e few<2>;
		typedef maybe two[2];
		struct s { e k; maybe m; };
		union u switch (e k) { case A: s s1; default: void; };
		union w switch (bool b) { case TRUE: few l; };
		typedef opaque o<1>;
		struct deep { deep *next; };`)
	words := []string{"\x00\x00\x00\x00", "\x00\x00\x00\x01", "\x00\x00\x00\x02", "\xff\xff\xff\xff", "\x01\x00\x00\x00"}
	all := []string{""}
	for from, most := 0, 4; most > 0; most-- {
		to := len(all)
		for _, s := range all[from:to] {
			for _, w := range words {
				all = append(all, s+w)
			}
		}
		from = to
	}
	for _, c := range []struct {
		name string
		want int
	}{
		{"bool", 2}, {"e", 2}, {"maybe", 3}, {"few", 1 + 2 + 4}, {"two", 9}, {"s", 6}, {"u", 6 + 1}, {"w", 7},
		{"o", 1 + 2}, // of the words that are there, its one byte is 0 or 1
		{"deep", 4},  // those of at most four words
	} {
		at := place(t, x, c.name)
		var came []api.Value
		for _, s := range all {
			if checkText(t, x, at, s) == api.OK {
				v, _ := value.Decode(x, at, s)
				if slices.ContainsFunc(came, func(w api.Value) bool { return value.Same(v, w) }) {
					t.Errorf("%s: two texts of %s", c.name, short(v))
				}
				came = append(came, v)
			}
		}
		if len(came) != c.want {
			t.Errorf("%s: %d texts are taken, not %d", c.name, len(came), c.want)
		}
	}
}

// TestAlwaysThere: the types 0 to 7 are the same, whatever else a schema has.
func TestAlwaysThere(t *testing.T) {
	r := rand.New(rand.NewSource(6))
	bare := compiled(t, "")
	for range 300 {
		m := newMaker(r)
		for at := range 8 {
			v := m.makeValue(at)
			a, e := value.Encode(bare, at, v)
			b, f := value.Encode(m.x, at, v)
			if a != b || e != f || e != api.OK {
				t.Fatalf("%s: %q, %d; %q, %d", short(v), a, e, b, f)
			}
		}
	}
}

// FuzzDecode looks for texts of the types of a source that are read wrongly.
func FuzzDecode(f *testing.F) {
	x := compiled(f, source)
	for _, c := range samples {
		f.Add(place(f, x, c.name), c.want)
	}
	f.Add(10, strings.Repeat("\x00\x00\x00\x00\x00\x00\x00\x00\x00\x00\x00\x01", 40))
	f.Fuzz(func(t *testing.T, at int, s string) {
		if at > len(x.Types) {
			at %= len(x.Types)
		}
		checkText(t, x, at, s)
	})
}

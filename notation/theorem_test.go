package notation_test

import (
	"math/rand"
	"slices"
	"strings"
	"testing"

	"callbox/api"
	"callbox/notation"
	"callbox/schema"
	"callbox/value"
)

// checkText holds what is told of a text against the model, and against V3.
func checkText(t *testing.T, x api.Schema, at int, s string) api.Errno {
	t.Helper()
	want, wantE, wantN := modelParse(x, at, s)
	v, e, n := notation.Parse(x, at, s)
	if e != wantE || n != wantN || !alike(v, want) {
		t.Fatalf("%s: type %d: %s: %s, %d at %d, not %s, %d at %d", short(x.Types), at, short(s), short(v), e, n, short(want), wantE, wantN)
	}
	if e != api.OK {
		return e
	}
	if fits := value.Fits(x, at, v); fits != api.OK {
		t.Fatalf("%s: what is read is none: %d", short(s), fits)
	}
	if again, e := notation.Print(x, at, v); again != s || e != api.OK {
		t.Fatalf("%s: it is %s, %d, once printed", short(s), short(again), e)
	}
	return api.OK
}

// checkValue holds what is told of a value against the model, and against V3.
func checkValue(t *testing.T, x api.Schema, at int, v api.Value) api.Errno {
	t.Helper()
	want, wantE := modelPrint(x, at, v)
	s, e := notation.Print(x, at, v)
	if s != want || e != wantE {
		t.Fatalf("%s: type %d: %s: %s, %d, not %s, %d", short(x.Types), at, short(v), short(s), e, short(want), wantE)
	}
	if fits := value.Fits(x, at, v); e != fits && (fits != api.OK || e != api.ErrNotationLong) {
		t.Fatalf("%s: %d, though Fits tells %d", short(v), e, fits)
	}
	if e != api.OK {
		return e
	}
	if back, e, n := notation.Parse(x, at, s); e != api.OK || n != 0 || !value.Same(back, v) || !alike(back, v) {
		t.Fatalf("%s: it is %s, %d at %d, once read", short(v), short(back), e, n)
	}
	return api.OK
}

func wantCame(t *testing.T, came map[api.Errno]int, least int, all ...api.Errno) {
	t.Helper()
	for _, e := range all {
		if came[e] < least {
			t.Errorf("%d came %d times", e, came[e])
		}
	}
}

// TestMadeValues is V1 and V3 of values that are right, or were.
func TestMadeValues(t *testing.T) {
	r := rand.New(rand.NewSource(1))
	came, kinds := map[api.Errno]int{}, map[int]int{}
	for range 1200 {
		m := newMaker(r)
		for range 10 {
			at := m.somewhere()
			v := m.makeValue(at)
			for _, one := range nodes(&v) {
				kinds[one.Kind]++
			}
			came[checkValue(t, m.x, at, v)]++
			for range 2 {
				w := copied(v)
				m.spoil(&w)
				came[checkValue(t, m.x, at, w)]++
			}
		}
	}
	wantCame(t, came, 25, api.OK, api.ErrValueType, api.ErrValueDeep, api.ErrValueLong, api.ErrValueCase, api.ErrNotationLong)
	for kind := range api.Union + 1 {
		if kinds[kind] < 500 {
			t.Errorf("the kind %d came %d times", kind, kinds[kind])
		}
	}
}

// TestMadeTexts is V2 and V3 of texts that are right, or were, or never.
func TestMadeTexts(t *testing.T) {
	r := rand.New(rand.NewSource(2))
	came := map[api.Errno]int{}
	for range 1200 {
		m := newMaker(r)
		for range 8 {
			at := m.somewhere()
			s := modelText(m.x, at, m.makeValue(at))
			came[checkText(t, m.x, at, s)]++
			for range 4 {
				spoilt := s
				for range 1 + r.Intn(2) {
					spoilt = m.spoilText(spoilt)
				}
				came[checkText(t, m.x, at, spoilt)]++
			}
			came[checkText(t, m.x, at, m.anyText())]++
		}
	}
	wantCame(t, came, 25, api.OK, api.ErrNotationForm, api.ErrNotationRange, api.ErrNotationLong, api.ErrValueDeep, api.ErrValueLong)
}

// TestElsewhere is V3: of a schema that has the same type elsewhere, with others beside it, all is the same.
func TestElsewhere(t *testing.T) {
	r := rand.New(rand.NewSource(3))
	came := map[api.Errno]int{}
	for range 800 {
		m := newMaker(r)
		y, where := m.moved()
		if !schema.Right(y) {
			t.Fatalf("%s may not be", short(y))
		}
		for range 8 {
			at := m.somewhere()
			v := m.makeValue(at)
			s := modelText(m.x, at, v)
			if r.Intn(3) > 0 {
				s = m.spoilText(s)
			}
			a, e, n := notation.Parse(m.x, at, s)
			b, f, k := notation.Parse(y, where[at], s)
			if e != f || n != k || !alike(a, b) {
				t.Fatalf("%s: %s, %d at %d; elsewhere %s, %d at %d", short(s), short(a), e, n, short(b), f, k)
			}
			came[e]++
			if r.Intn(3) == 0 {
				m.spoil(&v)
			}
			c, e := notation.Print(m.x, at, v)
			d, f := notation.Print(y, where[at], v)
			if c != d || e != f {
				t.Fatalf("%s: %s, %d; elsewhere %s, %d", short(v), short(c), e, short(d), f)
			}
			came[e]++
		}
	}
	wantCame(t, came, 25, api.OK, api.ErrNotationForm, api.ErrNotationRange, api.ErrNotationLong, api.ErrValueDeep, api.ErrValueLong, api.ErrValueType)
}

// TestSameOfSources is V3: a type that is written in another source, under another name or within another type, has the same texts.
func TestSameOfSources(t *testing.T) {
	type spot struct {
		source, name, front, back string
	}
	texts := []string{"{a=1,b=(A:x=[#00,#])}", "{a=1,b=(B)}", "{a=-1,b=(A:x=[])}", "{a=1,b=(A:x=[#00,#,#])}", "{a=1,b=(C)}", "{a=1,b=(A:y=[])}", "{a=2147483648,b=(B)}", "{a=1}", "none", "{b=1}", "{a=1,b=(A:x=[#0])}", "{a=1,b=(A:x=[#00000000])}"}
	e := "enum e { A = 1, B = 2, C = 3 }; "
	within := "typedef opaque o<2>; union u switch (e d) { case A: o x<2>; case B: void; }; struct s { int a; u b; }; "
	spots := []spot{
		{e + within, "s", "", ""},
		{"const N = 9; struct other { int a; }; " + e + "typedef int i; typedef i *many; " + within, "s", "", ""},
		{e + within + "typedef s again;", "again", "", ""},
		{e + "typedef opaque o<2>; struct s { int a; union switch (e other_name) { case A: o x<2>; case B: void; } b; };", "s", "", ""},
		{e + within + "struct t { s a; };", "t", "{a=", "}"},
		{e + within + "typedef s list<3>;", "list", "[", "]"},
		{e + within + "typedef s array[1];", "array", "[", "]"},
		{e + within + "typedef s *maybe;", "maybe", "*", ""},
		{e + within + "union w switch (int d) { case 1: s z; default: void; };", "w", "(1:z=", ")"},
	}
	for _, s := range texts {
		x := compiled(t, spots[0].source)
		want, wantE, wantN := notation.Parse(x, place(t, x, "s"), s)
		for _, one := range spots[1:] {
			y := compiled(t, one.source)
			got, e, n := notation.Parse(y, place(t, y, one.name), one.front+s+one.back)
			if one.front == "" {
				if e != wantE || n != wantN || !alike(got, want) {
					t.Errorf("%s of %s: %s, %d at %d, not %d at %d", s, one.source, short(got), e, n, wantE, wantN)
				}
				continue
			}
			if e != wantE || e == api.OK && !alike(got.Items[0], want) || e != api.OK && n != wantN+len(one.front) {
				t.Errorf("%s of %s: %s, %d at %d, not %d at %d", s, one.source, short(got), e, n, wantE, wantN)
			}
		}
	}
}

// TestSpoiltSchemas: of schemas that may not be, nothing but that is told; of those that may be still, what the model tells.
func TestSpoiltSchemas(t *testing.T) {
	r := rand.New(rand.NewSource(4))
	wrong := 0
	for range 1000 {
		m := newMaker(r)
		y := api.Schema{Types: slices.Clone(m.x.Types), Names: m.x.Names}
		one := &y.Types[r.Intn(len(y.Types))]
		n := pick(r, -1, 0, 1, 7, 8, len(y.Types), 1001, api.MaxWord, api.MaxWord+1)
		switch r.Intn(8) {
		case 0:
			one.Kind = r.Intn(18)
		case 1:
			one.Size = n
		case 2:
			one.Of = n
		case 3:
			one.Else = pick(r, -1, 0, 1, 2)
		case 4:
			one.Members = nil
		case 5:
			one.Fields = append(slices.Clone(one.Fields), api.Field{Name: "g", Type: n})
		case 6:
			one.Arms = append(slices.Clone(one.Arms), api.Arm{Name: "g", Type: n})
		case 7:
			y.Types = y.Types[:r.Intn(len(y.Types))]
		}
		if !schema.Right(y) {
			wrong++
		}
		for at := range m.x.Types {
			v := m.makeValue(at)
			checkValue(t, y, at, v)
			checkText(t, y, at, modelText(m.x, at, v))
		}
	}
	if wrong < 300 {
		t.Errorf("%d may not be", wrong)
	}
}

// allTexts are those of at most so many pieces.
func allTexts(most int, pieces ...string) []string {
	all := []string{""}
	for from := 0; most > 0; most-- {
		to := len(all)
		for _, s := range all[from:to] {
			for _, piece := range pieces {
				all = append(all, s+piece)
			}
		}
		from = to
	}
	return all
}

// TestAllTexts is V3, of types that have few values: of all texts that there are of some pieces just so many are taken as there are values, each as another one.
func TestAllTexts(t *testing.T) {
	x := compiled(t, `
		enum e { A = 2, AB = -1 };
		typedef bool *maybe;
		typedef maybe *twice;
		typedef e few<2>;
		typedef e both[2];
		struct s { e k; };
		struct p { e A; bool B; };
		union u switch (e k) { case A: bool b; default: void; };
		union w switch (bool b) { case TRUE: few l; };
		typedef opaque o<1>;
		typedef opaque f[1];
		typedef string c<1>;`)
	for _, c := range []struct {
		name   string
		most   int
		pieces []string
		want   int
	}{
		{"bool", 3, []string{"TRUE", "FALSE", "T", "E", " "}, 2},
		{"e", 4, []string{"A", "B", "-", "1"}, 2},
		{"maybe", 4, []string{"*", "TRUE", "FALSE", "none", ","}, 3},
		{"twice", 5, []string{"*", "TRUE", "FALSE", "none"}, 4},
		{"few", 5, []string{"[", "]", ",", "A", "AB"}, 1 + 2 + 4},
		{"both", 5, []string{"[", "]", ",", "A", "AB"}, 4},
		{"s", 6, []string{"{", "}", "k", "=", "A"}, 1},
		{"s", 6, []string{"{", "}", "k=", "A", "B"}, 2},
		{"p", 5, []string{"{A=", ",B=", "}", "A", "AB", "TRUE"}, 2},
		{"u", 6, []string{"(", ")", ":b=", "A", "B", "TRUE"}, 1 + 1},
		{"w", 5, []string{"(TRUE:l=[", "])", "A", "AB", ","}, 1 + 2 + 4},
		{"o", 4, []string{"#", "0", "a", "A"}, 1 + 4},
		{"f", 4, []string{"#", "0", "a", "f", "F"}, 9},
		{"c", 4, []string{`"`, `\`, "a", " ", `\x00`, `\x1f`, `\x20`, "x"}, 1 + 4 + 3},
		{"int", 5, []string{"-", "0", "1", "2", "+"}, 1 + 2*2*(1+3+9+27) + 2*81},
		{"uint", 5, []string{"-", "0", "1", "2", "."}, 1 + 2*(1+3+9+27+81)},
		{"uhyper", 3, []string{"1844674407370955161", "5", "6", "0"}, 1 + 2*(1+3+9) + (1 + 2)},
		{"void", 5, []string{"v", "o", "i", "d", "_"}, 1},
		{"double", 4, []string{"0x", "1", "p+", "0", "-", "nan", "inf"}, 3 + 3},
	} {
		at := place(t, x, c.name)
		var came []api.Value
		for _, s := range allTexts(c.most, c.pieces...) {
			if checkText(t, x, at, s) == api.OK {
				v, _, _ := notation.Parse(x, at, s)
				if slices.ContainsFunc(came, func(w api.Value) bool { return value.Same(v, w) }) {
					t.Errorf("%s: two texts of %s", c.name, short(v))
				}
				came = append(came, v)
			}
		}
		if len(came) != c.want {
			t.Errorf("%s of %s: %d texts are taken, not %d", c.name, strings.Join(c.pieces, " "), len(came), c.want)
		}
	}
}

// FuzzParse looks for texts of the types of a source that are read wrongly.
func FuzzParse(f *testing.F) {
	x := compiled(f, source)
	for _, c := range samples {
		f.Add(place(f, x, c.name), c.want)
	}
	f.Add(place(f, x, "cell"), cellText(33))
	f.Fuzz(func(t *testing.T, at int, s string) {
		if at > len(x.Types) {
			at %= len(x.Types)
		}
		checkText(t, x, at, s)
	})
}

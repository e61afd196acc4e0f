package codec_test

import (
	"math"
	"math/rand"
	"reflect"
	"slices"
	"strconv"
	"testing"

	"callbox/api"
	"callbox/codec"
	"callbox/schema"
)

// TestMadeSchemas is L1 and L4: the code of a schema is what the table says, and right, and there is a way back.
func TestMadeSchemas(t *testing.T) {
	r := rand.New(rand.NewSource(2))
	kinds := map[int]int{}
	for range 5000 {
		m := newMaker(r)
		c := lowered(t, m.x)
		if want := modelCode(m.x); !reflect.DeepEqual(bare(c), bare(want)) {
			t.Fatalf("%s: %s, not %s", short(m.x), short(c), short(want))
		}
		if wrong := wantRight(c, r); wrong != "" {
			t.Fatal(wrong)
		}
		for _, y := range m.x.Types {
			kinds[y.Kind]++
		}
	}
	for kind := range 17 {
		if kinds[kind] < 500 {
			t.Errorf("the kind %d came %d times", kind, kinds[kind])
		}
	}
}

// clauses are those of L2 that can be broken with all others whole.
var clauses = []string{
	"entries are places", "ends have nothing", "the first eight", "other kinds", "one operation", "as many fields", "fields", "how many numbers", "numbers unlike", "numbers' range", "a size of 1 to 1000", "a size that is a word",
	"no A", "no B", "no T", "B is an entry", "not of nothing", "a union's B is an entry", "A is an entry", "T has entries", "no call of the first eight",
	"pairs", "one pair at least", "64 arms", "cases unlike", "discriminants", "cases are numbers", "within itself", "1000 bytes",
}

// TestSpoiltCodes is L2: codes that were right, against the list. Nearly each clause comes to be the only one that is broken.
func TestSpoiltCodes(t *testing.T) {
	r := rand.New(rand.NewSource(3))
	alone := map[string]int{}
	right := 0
	for range 8000 {
		m := newMaker(r)
		first := m.code()
		for range 10 {
			c := bare(first)
			for range pick(r, 1, 1, 2, 3) {
				m.spoil(&c)
			}
			if wrong := wantRight(c, r); wrong != "" {
				t.Fatal(wrong)
			}
			wrong := broken(c)
			if len(wrong) == 0 {
				right++
			}
			if len(wrong) == 1 {
				for clause := range wrong {
					alone[clause]++
				}
			}
		}
	}
	if right < 3000 {
		t.Errorf("%d are right", right)
	}
	for _, clause := range clauses {
		if alone[clause] < 10 {
			t.Errorf("%s: broken alone %d times", clause, alone[clause])
		}
	}
}

// TestAnyCodes is L2: codes of types that were not made of a schema.
func TestAnyCodes(t *testing.T) {
	r := rand.New(rand.NewSource(4))
	m := &maker{r: r}
	alone := map[string]int{}
	right := 0
	for range 60000 {
		c := m.anyCode()
		if wrong := wantRight(c, r); wrong != "" {
			t.Fatal(wrong)
		}
		switch wrong := broken(c); len(wrong) {
		case 0:
			right++
		case 1:
			for clause := range wrong {
				alone[clause]++
			}
		}
	}
	if right < 8000 {
		t.Errorf("%d are right", right)
	}
	for _, clause := range []string{"within itself", "1000 bytes", "discriminants", "cases are numbers"} {
		if alone[clause] < 500 {
			t.Errorf("%s: broken alone %d times", clause, alone[clause])
		}
	}
}

// TestOtherNames is L4: the names of members, fields, arms, types, constants and programs are nothing to the code.
func TestOtherNames(t *testing.T) {
	pairs := [][2]string{
		{"enum e { A = 1, B = 2 };", "const N = 7; enum q { TRUTH = 1, C = 2 }; typedef q w;"},
		{"struct point { int x; int y; };", "struct p { int y; int x; }; program P { version V { p F(void) = 1; } = 2; } = 7;"},
		{"union u switch (bool b) { case TRUE: int x; default: int y; };", "union v switch (bool c) { case 1: int y; default: int z; };"},
		{"enum e { A = 1 }; union u switch (e k) { case A: void; };", "enum f { Z = 1 }; union u switch (f k) { case 1: void; };"},
		{"typedef opaque a[3];", "const THREE = 3; typedef opaque b[THREE];"},
	}
	for _, p := range pairs {
		wantCode(t, p[0], lowerSource(t, p[0]), lowerSource(t, p[1]))
	}
}

// TestPartedCases is L4: how cases that stand side by side and lead to one type are parted in arms is nothing to the code; all else is.
func TestPartedCases(t *testing.T) {
	union := func(arms string) string {
		return "struct s { int a; }; union u switch (int k) { " + arms + " };"
	}
	one := lowerSource(t, union("case 1: case 2: case 3: s x; case 4: void; default: s y;"))
	for arms, same := range map[string]bool{
		"case 1: s x; case 2: s z; case 3: s w; case 4: void; default: s y;":    true,
		"case 1: case 2: s z; case 3: s w; case 4: void; default: s y;":         true,
		"case 1: s z; case 2: case 3: s w; case 4: void; default: s y;":         true,
		"case 2: case 1: case 3: s x; case 4: void; default: s y;":              false,
		"case 1: case 2: s x; case 4: void; case 3: s z; default: s y;":         false,
		"case 4: void; case 1: case 2: case 3: s x; default: s y;":              false,
		"case 1: case 2: case 3: s x; case 4: void;":                            false,
		"case 1: case 2: case 3: s x; case 4: void; default: void;":             false,
		"case 1: case 2: case 3: s x; case 4: void; case 5: s z; default: s y;": false,
		"case 1: case 2: case 3: s x; case 5: void; default: s y;":              false,
		"case 1: case 2: s x; case 3: int z; case 4: void; default: s y;":       false,
		"case 1: case 2: case 3: case 4: s x; default: s y;":                    false,
	} {
		other := lowerSource(t, union(arms))
		if codec.Same(one, other) != same || codec.Same(other, one) != same {
			t.Errorf("%s: not %t", arms, same)
		}
	}
	// An arm of nothing beside another one of nothing.
	wantCode(t, "void", lowerSource(t, "union u switch (int k) { case 1: void; case 2: void; };"), lowerSource(t, "union u switch (int k) { case 1: case 2: void; };"))
	// Else leads where the last case leads: that is no case more.
	if codec.Same(lowerSource(t, union("case 1: s x; default: s y;")), lowerSource(t, union("case 1: s x;"))) {
		t.Error("else and none")
	}
}

// TestManyPartings is L4, of rows of more cases than one arm may have.
func TestManyPartings(t *testing.T) {
	r := rand.New(rand.NewSource(5))
	for _, lengths := range [][]int{{64}, {65}, {128, 1, 65}, {64 * 64}, {63*64 + 1}, slices.Repeat([]int{64}, 64), slices.Repeat([]int{1}, 64), {100, 100, 100}} {
		c := made(union(1, pick(r, -1, 0, 1), rows(lengths...)...))
		for range 5 {
			x := back(c, r)
			wantCode(t, strconv.Itoa(len(lengths)), lowered(t, x), c)
		}
	}
}

// TestTheorem is L4: two right schemas have the same code just if their types are the same, but for names and how cases are parted.
func TestTheorem(t *testing.T) {
	r := rand.New(rand.NewSource(6))
	same, other := 0, 0
	for range 4000 {
		m := newMaker(r)
		c := m.code()
		for range 10 {
			d := bare(c)
			for range pick(r, 0, 1, 1, 1, 1, 2) {
				m.spoil(&d)
			}
			if !codec.Right(d) {
				continue
			}
			x := back(d, r)
			got := codec.Same(lowered(t, m.x), lowered(t, x))
			if want := reflect.DeepEqual(plainTypes(m.x), plainTypes(x)); got != want {
				t.Fatalf("%s, %s: %t", short(m.x), short(x), got)
			}
			if got {
				same++
			} else {
				other++
			}
		}
	}
	if same < 3000 || other < 800 {
		t.Errorf("%d are the same, %d are not", same, other)
	}
}

// TestSpoiltSchemas is L1: just the schemas that may be have a code, and that is right.
func TestSpoiltSchemas(t *testing.T) {
	r := rand.New(rand.NewSource(7))
	right, wrong := 0, 0
	for range 20000 {
		m := newMaker(r)
		for range 1 + r.Intn(2) {
			m.spoilSchema()
		}
		if schema.Right(m.x) {
			right++
			wantCode(t, "spoilt", lowered(t, m.x), modelCode(m.x))
			continue
		}
		wrong++
		wantRefused(t, "spoilt", m.x)
	}
	if right < 2000 || wrong < 8000 {
		t.Errorf("%d are right, %d are not", right, wrong)
	}
}

// spoilSchema changes a schema in one place.
func (m *maker) spoilSchema() {
	all := len(m.x.Types)
	y := &m.x.Types[pick(m.r, m.r.Intn(all), max(0, all-1-m.r.Intn(max(1, all-8))))]
	n := pick(m.r, 0, 1, 2, 7, 8, all-1, all, m.r.Intn(all), m.r.Intn(all), -1, -2, 1000, 1001, api.MaxWord, api.MaxWord+1, math.MaxInt, math.MinInt)
	switch k := m.r.Intn(9); {
	case k == 0:
		y.Kind = pick(m.r, n, m.r.Intn(17))
	case k == 1:
		y.Size = n
	case k == 2:
		y.Of = n
	case k == 3:
		y.Else = n
	case k == 4 && len(y.Members) > 0:
		y.Members = slices.Clone(y.Members)
		y.Members[m.r.Intn(len(y.Members))].Number = n
	case k == 5 && len(y.Fields) > 0:
		y.Fields[m.r.Intn(len(y.Fields))].Type = n
	case k == 6 && len(y.Arms) > 0:
		y.Arms[m.r.Intn(len(y.Arms))].Type = n
	case k == 7 && len(y.Arms) > 0 && len(y.Arms[0].Cases) > 0:
		y.Arms[0].Cases = slices.Clone(y.Arms[0].Cases)
		y.Arms[0].Cases[0] = n
	case k == 8 && len(m.x.Names) > 0:
		m.x.Names[m.r.Intn(len(m.x.Names))].Name = pick(m.r, "M0", "int", "", "x")
	}
}

// TestSameOfMade is L3 of codes that are right, nearly right, and not at all.
func TestSameOfMade(t *testing.T) {
	r := rand.New(rand.NewSource(8))
	same := 0
	for range 5000 {
		m := newMaker(r)
		a := m.code()
		b := bare(a)
		for range r.Intn(3) {
			m.spoil(&b)
		}
		want := reflect.DeepEqual(bare(a), bare(b))
		if codec.Same(a, b) != want || codec.Same(b, a) != want {
			t.Fatalf("%s, %s: not %t", short(a), short(b), want)
		}
		if want {
			same++
		}
	}
	if same < 1000 || same > 4000 {
		t.Errorf("%d are the same", same)
	}
}

// read makes a code of bytes: of each operation its number, and small numbers, entries and bounds by their places.
func read(data []byte) api.Code {
	next := func() int {
		if len(data) == 0 {
			return 0
		}
		b := data[0]
		data = data[1:]
		return int(b)
	}
	number := func() int {
		n := next()
		bounds := []int{-1, -2, math.MaxInt, math.MinInt, math.MaxInt32, math.MaxInt32 + 1, math.MinInt32, math.MinInt32 - 1, api.MaxWord, api.MaxWord + 1, 1000, 1001, 64, 65}
		if n >= 256-len(bounds) {
			return bounds[255-n]
		}
		return n
	}
	var others []ops
	for len(data) > 0 && len(others) < 500 {
		one := ops{{Code: next() % 20}}
		one[0].A, one[0].B = number(), number()
		for range next() % 16 {
			one[0].T = append(one[0].T, number())
		}
		for range next() % 8 {
			one = append(one, api.Op{Code: next() % 20, B: number()})
		}
		others = append(others, one)
	}
	c := made(others...)
	if next()%4 == 1 {
		c.Entries[next()%len(c.Entries)] = number()
	}
	return c
}

// FuzzRight looks for codes that are judged wrongly.
func FuzzRight(f *testing.F) {
	f.Add([]byte{})
	f.Add([]byte{16, 2, 0, 0, 2, 2, 0, 2, 0, 18, 255, 1, 4, 1, 8, 2, 0, 0})
	f.Add([]byte{9, 0, 0, 2, 3, 4, 0, 13, 5, 8, 0, 0, 15, 0, 9, 0, 0})
	f.Fuzz(func(t *testing.T, data []byte) {
		if wrong := wantRight(read(data), rand.New(rand.NewSource(9))); wrong != "" {
			t.Fatal(wrong)
		}
	})
}

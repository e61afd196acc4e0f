package stub_test

import (
	"math"
	"slices"
	"strings"
	"testing"

	"callbox/api"
	"callbox/stub"
)

// TestBounds is B1 and B2: numbers at their bounds have a source; one beyond, the code may not be, and the text, whose lines have their forms, is no source.
func TestBounds(t *testing.T) {
	for _, c := range []struct {
		one   ops
		line  string
		right bool
	}{
		{enum(-2147483648, 2147483647), "x.Enum(-2147483648, 2147483647)", true},
		{enum(-2147483649), "x.Enum(-2147483649)", false},
		{enum(2147483648), "x.Enum(2147483648)", false},
		{fixed(1000), "x.Fixed(1000)", true},
		{fixed(1001), "x.Fixed(1001)", false},
		{fixed(0), "x.Fixed(0)", false},
		{opaque(0), "x.Opaque(0)", true},
		{opaque(-1), "x.Opaque(-1)", false},
		{opaque(4294967295), "x.Opaque(4294967295)", true},
		{opaque(4294967296), "x.Opaque(4294967296)", false},
		{text(4294967295), "x.String(4294967295)", true},
		{text(4294967296), "x.String(4294967296)", false},
		{array(250, 1), "x.Array(250, t1)", true},
		{array(251, 1), "x.Array(251, t1)", false},
		{list(4294967295, 8), "x.List(4294967295, t8)", true},
		{list(4294967296, 8), "x.List(4294967296, t8)", false},
		{list(1, 9), "x.List(1, t9)", false},
		{union(1, -1, -2147483648, 0, 2147483647, 0), "x.Union(t1, nil, -2147483648, t0, 2147483647, t0)", true},
		{union(1, -1, -2147483649, 0), "x.Union(t1, nil, -2147483649, t0)", false},
		{union(2, 0, 4294967295, 0), "x.Union(t2, t0, 4294967295, t0)", true},
		{union(2, 0, 4294967296, 0), "x.Union(t2, t0, 4294967296, t0)", false},
		{union(1, 9, 1, 0), "x.Union(t1, t9, 1, t0)", false},
	} {
		if c.right {
			wantSource(t, made(c.one), nil, typed(c.line))
			continue
		}
		wantNoSource(t, c.line, made(c.one), nil)
		wantLine(t, c.line, typed(c.line), 0)
	}
}

// TestNameBounds is B1 and B2: a constant's Value, a type's number and a name's length at their bounds, and one beyond.
func TestNameBounds(t *testing.T) {
	c := made(fixed(4))
	text := func(line string) string {
		return "package stub\n" + line + "\n" + typed("x.Fixed(4)")[len("package stub\n"):]
	}
	long := strings.Repeat("aZ_9", 8)
	for _, n := range []struct {
		name api.Named
		line string
		at   int // of a wrong one: the line that is told; -1 of a right one
	}{
		{api.Named{Name: "a", Const: true, Value: -2147483648}, "const Name_a = -2147483648", -1},
		{api.Named{Name: "a", Const: true, Value: -2147483649}, "const Name_a = -2147483649", 0},
		{api.Named{Name: "a", Const: true, Value: 4294967295}, "const Name_a = 4294967295", -1},
		{api.Named{Name: "a", Const: true, Value: 4294967296}, "const Name_a = 4294967296", 0},
		{api.Named{Name: "a", Const: true, Value: 9999999999}, "const Name_a = 9999999999", 0},
		{api.Named{Name: "a", Const: true, Value: 10000000000}, "const Name_a = 10000000000", 2},
		{api.Named{Name: "a", Const: true, Value: -9999999999}, "const Name_a = -9999999999", 0},
		{api.Named{Name: "a", Const: true, Value: -10000000000}, "const Name_a = -10000000000", 2},
		{api.Named{Name: "a", Value: 0}, "var Name_a = t0", -1},
		{api.Named{Name: "a", Value: 8}, "var Name_a = t8", -1},
		{api.Named{Name: "a", Value: 9}, "var Name_a = t9", 0},
		{api.Named{Name: "a", Value: -1}, "var Name_a = t-1", 2},
		{api.Named{Name: "a", Value: 9999999999}, "var Name_a = t9999999999", 0},
		{api.Named{Name: "a", Value: 10000000000}, "var Name_a = t10000000000", 2},
		{api.Named{Name: long, Value: 8}, "var Name_" + long + " = t8", -1},
		{api.Named{Name: long + "a", Value: 8}, "var Name_" + long + "a = t8", 2},
		{api.Named{Name: long, Const: true, Value: 8}, "const Name_" + long + " = 8", -1},
		{api.Named{Name: long + "a", Const: true, Value: 8}, "const Name_" + long + "a = 8", 2},
	} {
		if n.at < 0 {
			wantSource(t, c, []api.Named{n.name}, text(n.line))
			continue
		}
		wantNoSource(t, n.line, c, []api.Named{n.name})
		wantLine(t, n.line, text(n.line), n.at)
	}
}

// TestGreatCodes is B1 and B2: as much as may be in a code, and one more.
func TestGreatCodes(t *testing.T) {
	var pairs []int
	for n := range 4096 {
		pairs = append(pairs, n, 1+n/64%2)
	}
	var many []ops
	for range 392 {
		many = append(many, structure(slices.Repeat([]int{3}, 64)...))
	}
	greatest := slices.Repeat([]ops{union(1, 1, pairs...)}, 100)
	for what, all := range map[string][]ops{
		"numbers":   {enum(upTo(64)...)},
		"one pair":  {union(1, 1, pairs[:2]...)},
		"pairs":     {union(1, -1, pairs...)},
		"fields":    {structure(slices.Repeat([]int{8 - 1}, 64)...)},
		"types":     many,
		"all pairs": greatest,
	} {
		c := made(all...)
		want, e := modelPrint(c, nil)
		if e != api.OK {
			t.Fatal(what, e)
		}
		wantSource(t, c, nil, want)
	}
	for what, all := range map[string][]ops{
		"numbers": {enum(upTo(65)...)},
		"pairs":   {union(1, -1, append(slices.Clone(pairs), 5000, 1)...)},
		"fields":  {structure(slices.Repeat([]int{7}, 65)...)},
		"types":   append(slices.Clone(many), fixed(1)),
	} {
		wantNoSource(t, what, made(all...), nil)
	}
	last, _ := stub.Print(made(many...), nil)
	wantLine(t, "one type more", last+"func t400(x *Run) {\n\tx.Fixed(1)\n}\n", 0)
	wantLine(t, "one number more", typed("x.Enum("+listed(upTo(65))+")"), 0)
}

func listed(numbers []int) string {
	var all []string
	for _, n := range numbers {
		all = append(all, decimal(n))
	}
	return strings.Join(all, ", ")
}

// TestManyNames: there may be any number of them.
func TestManyNames(t *testing.T) {
	c := made()
	var names []api.Named
	want := []string{"package stub\n"}
	for n := range 50000 {
		names = append(names, api.Named{Name: "n" + decimal(n), Const: true, Value: n})
		want = append(want, "const Name_n"+decimal(n)+" = "+decimal(n)+"\n")
	}
	wantSource(t, c, names, strings.Join(want, "")+firstEight)
	names[49999].Name = names[0].Name
	wantNoSource(t, "the first name once more", c, names)
	want[50000] = "var Name_n0 = t7\n"
	wantLine(t, "the first name once more", strings.Join(want, "")+firstEight, 0)
}

// TestLongTexts: texts far beyond all codes are read to their ends, or to what is wrong first.
func TestLongTexts(t *testing.T) {
	const many = 1 << 18
	rest := strings.TrimPrefix(exampleText, headOnly)
	for what, c := range map[string]struct {
		s    string
		line int
	}{
		"bytes 10":            {strings.Repeat("\n", many), 1},
		"one line":            {strings.Repeat("x", many), 1},
		"digits":              {headOnly + "const Name_a = " + strings.Repeat("9", many) + "\n" + rest, 2},
		"zeros":               {headOnly + "const Name_a = " + strings.Repeat("0", many) + "\n" + rest, 2},
		"digits of a word":    {headOnly + "var Name_a = t" + strings.Repeat("1", many) + "\n" + rest, 2},
		"a name":              {headOnly + "var Name_" + strings.Repeat("a", many) + " = t8\n" + rest, 2},
		"numbers":             {typed("x.Enum(0" + strings.Repeat(", 1", many) + ")"), 0},
		"numbers and a fault": {typed("x.Enum(0" + strings.Repeat(", 1", many) + ",)"), 27},
		"pairs":               {typed("x.Union(t1, nil" + strings.Repeat(", 1, t1", many) + ")"), 0},
		"pairs and a fault":   {typed("x.Union(t1, nil" + strings.Repeat(", 1, t1", many) + ", 1)"), 27},
		"operations":          {typed("x.Struct(64)" + strings.Repeat("\n\tx.Int()", many)), 0},
		"operations, a fault": {typed("x.Struct(64)" + strings.Repeat("\n\tx.Int()", many) + "\n\tx.Int(1)"), 28 + many},
		"calls":               {typed("x.Struct(64)" + strings.Repeat("\n\tt8(x)", many)), 0},
		"ends":                {exampleText + strings.Repeat("}\n", many), 36},
		"names":               {headOnly + strings.Repeat("var Name_a = t8\n", many) + rest, 0},
		"names alone":         {headOnly + strings.Repeat("var Name_a = t8\n", many), many + 2},
		"parentheses":         {typed("x.Enum" + strings.Repeat("(", many) + strings.Repeat(")", many)), 27},
	} {
		wantLine(t, what, c.s, c.line)
	}
}

// TestManyTypes: fronts are counted on, however many there are.
func TestManyTypes(t *testing.T) {
	var s strings.Builder
	s.WriteString(headOnly)
	for place := range 30000 {
		s.WriteString("func t" + decimal(place) + "(x *Run) {\n\tt29999(x)\n}\n")
	}
	wantLine(t, "too many", s.String(), 0)
	wantLine(t, "too many, and the next but one", s.String()+"func t30001(x *Run) {\n", 90002)
	wantLine(t, "too many, and the next", s.String()+"func t30000(x *Run) {\n", 90003)
}

// TestNumbersFarBeyond: no number makes a call panic, wherever it stands.
func TestNumbersFarBeyond(t *testing.T) {
	all := func() api.Code {
		return made(enum(3, -1), fixed(3), array(2, 8), list(7, 10), maybe(9), structure(1, 8, 11), union(8, -1, 3, 13, -1, 0), union(1, 14, 5, 12))
	}
	if !okay(all(), []api.Named{{Name: "a"}}) {
		t.Fatal("not right")
	}
	for _, n := range []int{math.MinInt, math.MinInt + 1, -1 << 40, 1 << 40, math.MaxInt - 1, math.MaxInt} {
		for i := range all().Ops {
			for _, do := range []func(op *api.Op){
				func(op *api.Op) { op.Code = n },
				func(op *api.Op) { op.A = n },
				func(op *api.Op) { op.B = n },
				func(op *api.Op) { op.T = append(op.T, n) },
				func(op *api.Op) { op.T = append(op.T, n, n) },
				func(op *api.Op) { *op = api.Op{Code: n, A: n, B: n, T: []int{n, n, n}} },
			} {
				c := all()
				do(&c.Ops[i])
				wantNoSource(t, "an operation", c, nil)
			}
		}
		for i := range all().Entries {
			c := all()
			c.Entries[i] = n
			wantNoSource(t, "an entry", c, nil)
		}
		wantNoSource(t, "a name", all(), []api.Named{{Name: "a", Value: n}})
		wantNoSource(t, "a constant", all(), []api.Named{{Name: "a", Const: true, Value: n}})
	}
}

package stub_test

import (
	"strconv"
	"strings"
	"testing"

	"callbox/api"
	"callbox/stub"
)

func decimal(n int) string { return strconv.Itoa(n) }

// linesOf are a text's lines, each with its byte 10.
func linesOf(s string) []string { return strings.SplitAfter(strings.TrimSuffix(s, "\n"), "\n") }

// whole are lines, each ended.
func whole(lines []string) string {
	s := ""
	for _, line := range lines {
		s += strings.TrimSuffix(line, "\n") + "\n"
	}
	return s
}

// TestNoNames is B1: names that may not be.
func TestNoNames(t *testing.T) {
	c := made(fixed(4))
	ok := api.Named{Name: "ok", Value: 8}
	for what, n := range map[string]api.Named{
		"no name":               {Value: 8},
		"a digit ahead":         {Name: "1a", Value: 8},
		"a _ ahead":             {Name: "_a", Value: 8},
		"a word":                {Name: "struct", Value: 8},
		"a word, of a constant": {Name: "quadruple", Const: true},
		"a blank":               {Name: "a b", Value: 8},
		"a blank behind":        {Name: "a ", Value: 8},
		"a byte 10":             {Name: "a\n", Value: 8},
		"a letter of two bytes": {Name: "ä", Value: 8},
		"33 bytes":              {Name: strings.Repeat("a", 33), Value: 8},
		"33 bytes, of a const":  {Name: strings.Repeat("a", 33), Const: true},
		"no such type":          {Name: "a", Value: 9},
		"below all types":       {Name: "a", Value: -1},
		"an entry":              {Name: "a", Value: 16},
		"too great":             {Name: "a", Const: true, Value: 1 << 32},
		"too small":             {Name: "a", Const: true, Value: -1<<31 - 1},
		"the greatest number":   {Name: "a", Const: true, Value: 1<<63 - 1},
		"the least number":      {Name: "a", Const: true, Value: -1 << 63},
		"the greatest type":     {Name: "a", Value: 1<<63 - 1},
		"the least type":        {Name: "a", Value: -1 << 63},
		"the same once more":    ok,
		"the same of a const":   {Name: "ok", Const: true},
		"the same of another":   {Name: "ok"},
	} {
		wantNoSource(t, what, c, []api.Named{ok, n})
		wantNoSource(t, what, c, []api.Named{n, ok})
		wantNoSource(t, what, c, []api.Named{{Name: "b"}, n, {Name: "c"}, ok, {Name: "d"}})
	}
}

// TestNoCodes is B1: codes that may not be.
func TestNoCodes(t *testing.T) {
	right := func() api.Code { return made(enum(3, -1), union(8, -1, 3, 1, -1, 0), structure(8, 1)) }
	if !okay(right(), nil) {
		t.Fatal("not right")
	}
	for what, do := range map[string]func(c *api.Code){
		"nothing":                func(c *api.Code) { *c = api.Code{} },
		"no operations":          func(c *api.Code) { c.Ops = nil },
		"no entries":             func(c *api.Code) { c.Entries = nil },
		"seven entries":          func(c *api.Code) { *c = api.Code{Ops: c.Ops[:14], Entries: c.Entries[:7]} },
		"an entry more":          func(c *api.Code) { c.Entries = append(c.Entries, 22) },
		"an entry less":          func(c *api.Code) { c.Entries = c.Entries[:10] },
		"another entry":          func(c *api.Code) { c.Entries[0] = 1 },
		"no last end":            func(c *api.Code) { c.Ops = c.Ops[:len(c.Ops)-1] },
		"an end more":            func(c *api.Code) { c.Ops = append(c.Ops, api.Op{}) },
		"no operation's number":  func(c *api.Code) { c.Ops[16].Code = 19 },
		"a number below":         func(c *api.Code) { c.Ops[16].Code = -1 },
		"a number of an end":     func(c *api.Code) { c.Ops[17].A = 1 },
		"T of an end":            func(c *api.Code) { c.Ops[17].T = []int{1} },
		"B of an enum":           func(c *api.Code) { c.Ops[16].B = 2 },
		"A of an int":            func(c *api.Code) { c.Ops[2].A = 1 },
		"no numbers":             func(c *api.Code) { c.Ops[16].T = nil },
		"a number too great":     func(c *api.Code) { c.Ops[16].T[0] = 1 << 31 },
		"one number of a pair":   func(c *api.Code) { c.Ops[18].T = c.Ops[18].T[:3] },
		"no pairs":               func(c *api.Code) { c.Ops[18].T = nil },
		"no entry of a pair":     func(c *api.Code) { c.Ops[18].T[1] = 3 },
		"no entry of else":       func(c *api.Code) { c.Ops[18].A = 3 },
		"else below none":        func(c *api.Code) { c.Ops[18].A = -2 },
		"no discriminant":        func(c *api.Code) { c.Ops[18].B = 0 },
		"a field less":           func(c *api.Code) { c.Ops[20].A = 1 },
		"a call of an int":       func(c *api.Code) { c.Ops[21].B = 2 },
		"itself within":          func(c *api.Code) { c.Ops[21].B = 20 },
		"no entry of a call":     func(c *api.Code) { c.Ops[21].B = 21 },
		"a second union's union": func(c *api.Code) { c.Ops[18].A = 18 },
	} {
		c := right()
		do(&c)
		wantNoSource(t, what, c, nil)
		wantNoSource(t, what, c, []api.Named{{Name: "a"}})
		wantNoSource(t, what, c, []api.Named{{Name: "1"}})
	}
}

func okay(c api.Code, names []api.Named) bool {
	_, e := stub.Print(c, names)
	return e == api.OK
}

// TestLines is B2: lines that are none of the forms that may stand there, each in the place of a right one.
func TestLines(t *testing.T) {
	lines := linesOf(exampleText)
	for n, others := range map[int][]string{
		1:  {"package stubs", "package", "Package stub", " package stub", "package stub ", "package  stub", "package\tstub", "package stub\r", "\tpackage stub", "package stub;", "var Name_a = t8", "func t0(x *Run) {", "}"},
		2:  nameFaults,
		3:  nameFaults,
		4:  {"func t1(x *Run) {", "func t00(x *Run) {", "func t-0(x *Run) {", "func t(x *Run) {", "func 0(x *Run) {", "func T0(x *Run) {", "func t0(x *Run){", "func t0(x*Run) {", "func t0(x *Run)  {", "func t0 (x *Run) {", "func  t0(x *Run) {", "func t0(x *Run) { ", "func t0(x *Run)", "func t0(y *Run) {", "func t0(x Run) {", "\tfunc t0(x *Run) {", "func t0(x *Run) {}", "func t00000000000(x *Run) {"},
		5:  opFaults,
		32: {"} ", " }", "\t}", "}}", "{", "};", "", "func t9(x *Run) {", "var Name_a = t8", "const Name_a = 8", "package stub", "}\r"},
		33: {"func t8(x *Run) {", "func t10(x *Run) {", "func t0(x *Run) {", "func t09(x *Run) {", "func t-9(x *Run) {", "func t9999999999(x *Run) {", "}", "\tx.Int()", "\tt8(x)", "var Name_a = t8", "const Name_a = 8", "package stub", ""},
		34: opFaults,
	} {
		for _, other := range others {
			bent := append([]string{}, lines...)
			bent[n-1] = other
			wantLine(t, decimal(n)+": "+other, whole(bent), n)
			// What stands behind the first wrong line is nothing to it.
			wantLine(t, decimal(n)+": "+other+", cut", whole(bent[:n]), n)
			wantLine(t, decimal(n)+": "+other+", and more", whole(bent[:n])+"what\n\n\nis this", n)
		}
	}
}

var nameFaults = []string{
	"", " ", "var", "const", "var Name_ = t8", "const Name_ = 8", "var Name_1a = t8", "var Name__a = t8", "const Name_1a = 8", "var Name_int = t8", "const Name_void = 8", "var Name_aä = t8",
	"var name_a = t8", "var a = t8", "const a = 8", "Name_a = t8", "var Name_a = 8", "const Name_a = t8", "var Name_a= t8", "var Name_a =t8", "var Name_a  = t8", "var Name_a =  t8", "var Name_a = t8 ", " var Name_a = t8", "\tvar Name_a = t8", "var  Name_a = t8", "var\tName_a = t8",
	"var Name_a = t", "var Name_a = t08", "var Name_a = t00", "var Name_a = t-8", "var Name_a = t-0", "var Name_a = t+8", "var Name_a = T8", "var Name_a = t 8", "var Name_a = t8;", "var Name_a = t8t9", "var Name_a = t12345678901", "var Name_a = t00000000000", "var Name_a = nil", "var Name_a = t8\r",
	"const Name_a = ", "const Name_a =", "const Name_a", "const Name_a = -", "const Name_a = 08", "const Name_a = 00", "const Name_a = -0", "const Name_a = -08", "const Name_a = --8", "const Name_a = +8", "const Name_a = 8a", "const Name_a = 0x8", "const Name_a = 8.0", "const Name_a = 12345678901", "const Name_a = -12345678901", "const Name_a = 8 ", "const Name_a = 99999999999999999999999999", "const Name_a = -18446744073709551617",
	"var Name_" + strings.Repeat("a", 33) + " = t8", "const Name_" + strings.Repeat("a", 33) + " = 8", "var Name_a b = t8", "var Name_a\x00 = t8", "const Name_a = 8 // eight", "type Name_a = t8",
	"\tx.Void()", "\tt8(x)", "}", "package stub", "func t1(x *Run) {", "func t8(x *Run) {",
}

var opFaults = []string{
	"", "\t", "x.Void()", " x.Void()", "\t\tx.Void()", "\tx.Void", "\tx.Void(", "\tx.Void() ", "\tx.Void()\t", "\tx.Void( )", "\tx.Void(0)", "\tx.Void();", "\ty.Void()", "\tVoid()", "\tx.void()", "\tx.VOID()", "\tx.Void()x.Void()", "\tx.End()", "\tx.()", "\tx.Foo()", "\tx.Int(1)", "\tx.Bool(t1)", "\tx.Quadruple()", "\tx.Void()\r", "\tx .Void()",
	"\tx.Enum(,)", "\tx.Enum( )", "\tx.Enum(1,)", "\tx.Enum(1, )", "\tx.Enum(, 1)", "\tx.Enum(1,2)", "\tx.Enum(1 , 2)", "\tx.Enum(1,  2)", "\tx.Enum(1, 02)", "\tx.Enum(-0)", "\tx.Enum(1, -0)", "\tx.Enum(00)", "\tx.Enum(-)", "\tx.Enum(t1)", "\tx.Enum(nil)", "\tx.Enum(12345678901)", "\tx.Enum(1, -12345678901)", "\tx.Enum(1", "\tx.Enum(1, 2", "\tx.Enum", "\tx.Enum(", "\tx.Enum(1))", "\tx.Enum(1,, 2)", "\tx.Enum(0x1)", "\tx.Enum(1 2)",
	"\tx.Fixed()", "\tx.Fixed(t1)", "\tx.Fixed(1, 2)", "\tx.Fixed(01)", "\tx.Opaque()", "\tx.Opaque(-0)", "\tx.Opaque(12345678901)", "\tx.String()", "\tx.String(+1)", "\tx.String(1 )", "\tx.String( 1)", "\tx.String(1, t1)",
	"\tx.Array()", "\tx.Array(1)", "\tx.Array(t1)", "\tx.Array(1, 1)", "\tx.Array(t1, 1)", "\tx.Array(t1, t1)", "\tx.Array(1,t1)", "\tx.Array(1t1)", "\tx.List(1 t1)", "\tx.Array(1, t01)", "\tx.Array(1, t-1)", "\tx.Array(1, nil)", "\tx.Array(1, t)", "\tx.Array(01, t1)", "\tx.Array(1, t1, t1)", "\tx.Array(1, t12345678901)",
	"\tx.List()", "\tx.List(1)", "\tx.List(1, 1)", "\tx.List(, t1)", "\tx.List(1, )", "\tx.List(1;t1)", "\tx.List(1, nil)", "\tx.List(1, t00)", "\tx.List(99999999999, t1)",
	"\tx.Maybe()", "\tx.Maybe(1)", "\tx.Maybe(nil)", "\tx.Maybe(t)", "\tx.Maybe(t01)", "\tx.Maybe(t1, t2)", "\tx.Maybe(1, t1)", "\tx.Maybe(t-1)",
	"\tx.Struct()", "\tx.Struct(t1)", "\tx.Struct(nil)", "\tx.Struct(02)", "\tx.Struct(2, t1)", "\tx.Struct(2",
	"\tt(x)", "\tt-1(x)", "\tt08(x)", "\tt8()", "\tt8(y)", "\tt8(x", "\tt8(x) ", "\tt8 (x)", "\tt8( x)", "\t8(x)", "\tT8(x)", "\tnil(x)", "\tx.t8(x)", "\tt12345678901(x)", "t8(x)", "\tt8(x)(x)", "\tt8",
	"\tx.Union()", "\tx.Union(t1)", "\tx.Union(t1, )", "\tx.Union(t1,nil)", "\tx.Union(nil, nil)", "\tx.Union(nil, t1)", "\tx.Union(1, nil)", "\tx.Union(t1, 1)", "\tx.Union(t1, -1)", "\tx.Union(t1, nil, 1)", "\tx.Union(t1, nil, t1)", "\tx.Union(t1, nil, 1, 1)", "\tx.Union(t1, nil, t1, 1)", "\tx.Union(t1, nil, 1, nil)", "\tx.Union(t1, nil, 1, t1, 2)", "\tx.Union(t1, nil, 1, t1, )", "\tx.Union(t1, nil, 1, t1, t2)", "\tx.Union(t1, nil,1, t1)", "\tx.Union(t1, nil, 1,t1)", "\tx.Union(t1, nil 1, t1)", "\tx.Union(t1, nilnil)", "\tx.Union(t1, nil, 1t1)", "\tx.Union(t1, nil, 1, t1, 2t1)", "\tx.Union(t1, nil, 1, t1 2, t1)", "\tx.Union(t1nil)", "\tx.Union(t1, NIL)", "\tx.Union(t1, nil, 01, t1)", "\tx.Union(t1, nil, -0, t1)", "\tx.Union(t1, nil, 1, t01)", "\tx.Union(t01, nil)", "\tx.Union(t1, t00)", "\tx.Union(t1, t-1)", "\tx.Union(t1, nil, 12345678901, t1)", "\tx.Union(t1, nil, 1, t12345678901)", "\tx.Union(t1, nil, 1, t1", "\tx.Union(t1, nil))", "\tx.Union(t1, t2nil)", "\tx.Union(t1, nilt2)",
	"var Name_a = t8", "const Name_a = 8", "package stub", "func t0(x *Run) {", "func t1(x *Run) {", "func t9(x *Run) {", "func t10(x *Run) {", "\t}", "} ", "\treturn", "// x",
}

// TestRightLines is B2: lines that have a form, in a text that is the source of nothing.
func TestRightLines(t *testing.T) {
	wantLine(t, "a text that is right but for the line", with(t, exampleText, "\tx.List(5, t8)\n", "\tx.List(5, t99)\n"), 0)
	for _, line := range []string{
		"x.Void()", "x.Int()", "x.Bool()", "x.Enum()", "x.Enum(1, 1)", "x.Enum(2147483648)", "x.Enum(-2147483649)", "x.Enum(9999999999)", "x.Enum(-9999999999)",
		"x.Fixed(0)", "x.Fixed(1001)", "x.Fixed(-1)", "x.Opaque(-1)", "x.Opaque(4294967296)", "x.String(9999999999)", "x.String(-9999999999)",
		"x.Array(0, t1)", "x.Array(1, t0)", "x.Array(1, t8)", "x.Array(-1, t1)", "x.Array(1, t9)", "x.Array(1001, t1)", "x.Array(251, t1)",
		"x.List(-1, t1)", "x.List(1, t0)", "x.List(1, t9)", "x.List(4294967296, t1)", "x.List(1, t9999999999)", "x.Maybe(t0)", "x.Maybe(t9)", "x.Maybe(t9999999999)",
		"x.Struct(0)", "x.Struct(1)", "x.Struct(-1)", "x.Struct(65)", "t0(x)", "t1(x)", "t8(x)", "t9(x)", "t9999999999(x)", "",
		"x.Union(t1, nil)", "x.Union(t7, t0)", "x.Union(t0, nil, 1, t1)", "x.Union(t3, nil, 1, t1)", "x.Union(t8, nil, 1, t1)", "x.Union(t9, nil, 1, t1)", "x.Union(t9999999999, nil, 1, t1)", "x.Union(t1, t9, 1, t1)", "x.Union(t1, t8, 1, t1)", "x.Union(t1, nil, 1, t9)", "x.Union(t1, nil, 1, t8)", "x.Union(t1, nil, 1, t1, 1, t1)", "x.Union(t7, nil, 2, t1)", "x.Union(t2, nil, -1, t1)", "x.Union(t1, nil, 2147483648, t1)", "x.Union(t1, nil, -9999999999, t1)", "x.Union(t1, nil, 9999999999, t1)", "x.Union(t1, t9999999999, 1, t9999999999)",
		"x.Fixed(1)\n\tx.Fixed(1)", "x.Struct(1)\n\tx.Void()", "x.Struct(1)\n\tx.Int()\n\tx.Int()", "x.Struct(2)\n\tx.Int()", "x.Struct(1)\n\tx.Fixed(4)", "x.Struct(1)\n\tt0(x)", "x.Struct(1)\n\tt1(x)", "x.Struct(1)\n\tt8(x)", "x.Struct(1)\n\tt9(x)", "x.Int()\n\tx.Struct(1)",
	} {
		s := typed(line)
		if line == "" {
			s = typed()
		}
		wantLine(t, line, s, 0)
		// One line more, which is wrong: now that one is told.
		wantLine(t, line+", and more", s+"}\n", strings.Count(s, "\n")+1)
	}
}

// TestSomeTypes is B2: texts whose lines have their forms, but not the types that are always there.
func TestSomeTypes(t *testing.T) {
	for what, s := range map[string]string{
		"one empty type":     "package stub\nfunc t0(x *Run) {\n}\n",
		"one type":           "package stub\nfunc t0(x *Run) {\n\tx.Void()\n}\n",
		"seven types":        "package stub\n" + with(t, firstEight, "func t7(x *Run) {\n\tx.Bool()\n}\n", ""),
		"in another order":   "package stub\n" + strings.NewReplacer("Int", "Uint", "Uint", "Int").Replace(firstEight),
		"one with none":      "package stub\n" + with(t, firstEight, "\tx.Float()\n", ""),
		"one with two":       "package stub\n" + with(t, firstEight, "\tx.Float()\n", "\tx.Float()\n\tx.Float()\n"),
		"a name of no type":  "package stub\nvar Name_a = t8\n" + firstEight,
		"a great const":      "package stub\nconst Name_a = 4294967296\n" + firstEight,
		"a small const":      "package stub\nconst Name_a = -2147483649\n" + firstEight,
		"ten digits":         "package stub\nconst Name_a = 9999999999\n" + firstEight,
		"ten digits below 0": "package stub\nconst Name_a = -9999999999\n" + firstEight,
		"ten digits, a type": "package stub\nvar Name_a = t9999999999\n" + firstEight,
		"a name twice":       "package stub\nvar Name_a = t7\nvar Name_a = t7\n" + firstEight,
		"a name twice, both": "package stub\nvar Name_a = t7\nconst Name_b = 0\nconst Name_a = 7\n" + firstEight,
	} {
		wantLine(t, what, s, 0)
	}
}

// TestLastLine is B2: where a text ends too early, or too late.
func TestLastLine(t *testing.T) {
	lines := linesOf(exampleText)
	for what, c := range map[string]struct {
		s    string
		line int
	}{
		"nothing":                   {"", 1},
		"one byte 10":               {"\n", 1},
		"two bytes 10":              {"\n\n", 1},
		"a byte":                    {"p", 1},
		"the first line, not ended": {"package stub", 1},
		"the first line":            {"package stub\n", 2},
		"and an empty one":          {"package stub\n\n", 2},
		"a name":                    {"package stub\nvar Name_a = t8\n", 3},
		"a name, not ended":         {"package stub\nvar Name_a = t8", 2},
		"names alone":               {"package stub\nvar Name_a = t8\nconst Name_b = 8\nvar Name_a = t7\n", 5},
		"a front":                   {"package stub\nfunc t0(x *Run) {\n", 3},
		"a front, not ended":        {"package stub\nfunc t0(x *Run) {", 2},
		"an operation":              {"package stub\nfunc t0(x *Run) {\n\tx.Void()\n", 4},
		"an operation, not ended":   {"package stub\nfunc t0(x *Run) {\n\tx.Void()", 3},
		"a type, not ended":         {"package stub\nfunc t0(x *Run) {\n\tx.Void()\n}", 4},
		"an empty line behind":      {exampleText + "\n", 36},
		"a byte behind":             {exampleText + "}", 36},
		"a zero behind":             {exampleText + "\x00", 36},
		"a blank behind":            {exampleText + " ", 36},
		"a front behind":            {exampleText + "func t10(x *Run) {\n", 37},
		"another front behind":      {exampleText + "func t11(x *Run) {\n", 36},
		"a front, not ended, more":  {exampleText + "func t10(x *Run) {", 36},
		"a type behind, not ended":  {exampleText + "func t10(x *Run) {\n}", 37},
		"a type behind":             {exampleText + "func t10(x *Run) {\n}\n", 0},
		"a type and its operation":  {exampleText + "func t10(x *Run) {\n\tx.Fixed(1)\n", 38},
		"all of it again":           {exampleText + exampleText, 36},
		"without the first line":    {whole(lines[1:]), 1},
		"an empty line ahead":       {"\n" + exampleText, 1},
		"a blank ahead":             {" " + exampleText, 1},
		"a mark of bytes ahead":     {"\xef\xbb\xbf" + exampleText, 1},
		"by 13 and 10":              {strings.ReplaceAll(exampleText, "\n", "\r\n"), 1},
		"by 13":                     {strings.ReplaceAll(exampleText, "\n", "\r"), 1},
		"without all bytes 10":      {strings.ReplaceAll(exampleText, "\n", ""), 1},
		"doubled bytes 10":          {strings.ReplaceAll(exampleText, "\n", "\n\n"), 2},
	} {
		wantLine(t, what, c.s, c.line)
	}
}

// TestOrder is B2: names stand ahead of all types, operations within one.
func TestOrder(t *testing.T) {
	const name, constant, operation, end = "var Name_a = t8\n", "const Name_a = 8\n", "\tx.Void()\n", "}\n"
	front := func(place string) string { return "func t" + place + "(x *Run) {\n" }
	for _, c := range []struct {
		s    string
		line int
	}{
		{operation, 2}, {end, 2}, {name + operation, 3}, {name + end, 3}, {constant + operation, 3}, {constant + end, 3},
		{headOnly, 2}, {name + headOnly, 3}, {front("0") + headOnly, 3}, {front("0") + end + headOnly, 4},
		{front("0") + name, 3}, {front("0") + constant, 3}, {front("0") + operation + name, 4}, {front("0") + operation + constant, 4}, {front("0") + end + name, 4}, {front("0") + end + constant, 4},
		{front("1"), 2}, {name + front("1"), 3}, {front("0") + front("0"), 3}, {front("0") + front("1"), 3}, {front("0") + operation + front("1"), 4},
		{front("0") + end + end, 4}, {front("0") + end + operation, 4}, {front("0") + end + front("0"), 4}, {front("0") + end + front("2"), 4}, {front("0") + end + front("1"), 5},
		{front("0") + end + front("1") + end + front("1"), 6}, {front("0") + end + front("1") + end + front("0"), 6}, {front("0") + end + front("1") + end + front("2") + end, 0},
		{front("0") + end + name + front("1") + end, 4},
	} {
		wantLine(t, c.s, headOnly+c.s, c.line)
	}
}

const headOnly = "package stub\n"

// TestAnotherLineEarlier is B2: the first wrong line is told, and a whole that is wrong only behind all lines.
func TestAnotherLineEarlier(t *testing.T) {
	s := with(t, exampleText, "point = t8", "point = t99")
	wantLine(t, "no such type", s, 0)
	wantLine(t, "and no last byte", s[:len(s)-1], 35)
	wantLine(t, "and a wrong line", with(t, s, "x.List(5, t8)", "x.List(5, 8)"), 34)
	wantLine(t, "and two", with(t, with(t, s, "x.List(5, t8)", "x.List(5, 8)"), "x.Struct(2)", "x.Struct()"), 29)
	wantLine(t, "and three", "x"+with(t, with(t, s, "x.List(5, t8)", "x.List(5, 8)"), "x.Struct(2)", "x.Struct()"), 1)
}

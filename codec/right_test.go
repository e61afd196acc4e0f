package codec_test

import (
	"math"
	"math/rand"
	"slices"
	"strconv"
	"testing"

	"callbox/api"
	"callbox/codec"
)

// verdict is a code, and whether it may be.
type verdict struct {
	what  string
	c     api.Code
	right bool
}

// wantVerdicts holds codes against Right, and the list of the tests' own against both.
func wantVerdicts(t *testing.T, all []verdict) {
	t.Helper()
	r := rand.New(rand.NewSource(1))
	for _, v := range all {
		if codec.Right(v.c) != v.right {
			t.Errorf("%s: not %t (broken: %v)", v.what, v.right, broken(v.c))
		}
		if wrong := wantRight(v.c, r); wrong != "" {
			t.Errorf("%s: %s", v.what, wrong)
		}
	}
}

// wantChanges does something to a code that is right.
func wantChanges(t *testing.T, c api.Code, right bool, changes map[string]func(c *api.Code)) {
	t.Helper()
	if !codec.Right(c) {
		t.Fatalf("not right: %s", short(c))
	}
	for what, do := range changes {
		wantVerdicts(t, []verdict{{what, changed(c, do), right}})
	}
}

// all is a code of all kinds: its types, from 8 on, begin at 16, 18, 20, 22, 24, 26, 28, 30, 39, 41.
func all() api.Code {
	return made(enum(3, -1), fixed(3), opaque(4), text(5), array(2, 8), list(7, 10), maybe(12), structure(1, 2, 3, 8, 13, 6, 7), union(8, -1, 3, 15, -1, 0), union(1, 16, 5, 14, -7, 14))
}

func TestNoCode(t *testing.T) {
	first := made()
	wantVerdicts(t, []verdict{
		{"the first eight", first, true},
		{"all kinds", all(), true},
		{"nothing", api.Code{}, false},
		{"no entries", api.Code{Ops: first.Ops}, false},
		{"no operations", api.Code{Entries: first.Entries}, false},
		{"empty lists", api.Code{Ops: []api.Op{}, Entries: []int{}}, false},
		{"one operation", api.Code{Ops: []api.Op{{}}, Entries: []int{0}}, false},
	})
}

// TestFirstEight is L2: the types 0 to 7 stand in front, each with its operation, and nowhere else.
func TestFirstEight(t *testing.T) {
	for place := range 8 {
		for code := -1; code <= 19; code++ {
			c := all()
			c.Ops[2*place].Code = code
			wantVerdicts(t, []verdict{{"another operation", c, code == place+1}})
		}
		c := all()
		c.Ops[2*place+1].Code = api.OpInt
		d := all()
		d.Ops = append(d.Ops, api.Op{Code: place + 1}, end())
		d.Entries = append(d.Entries, len(all().Ops))
		wantVerdicts(t, []verdict{{"another end", c, false}, {"once more", d, false}})
	}
	c := all()
	c.Ops[2], c.Ops[4] = c.Ops[4], c.Ops[2]
	wantVerdicts(t, []verdict{{"two in disorder", c, false}})
}

// TestHowManyEntries is L2: codes with 7, 8, 400 and 401 entries.
func TestHowManyEntries(t *testing.T) {
	many := slices.Repeat([]ops{fixed(4)}, 400)
	seven := made()
	seven.Ops, seven.Entries = seven.Ops[:14], seven.Entries[:7]
	wantVerdicts(t, []verdict{
		{"7", seven, false},
		{"8", made(), true},
		{"9", made(many[:1]...), true},
		{"399", made(many[:391]...), true},
		{"400", made(many[:392]...), true},
		{"401", made(many[:393]...), false},
		{"408", made(many...), false},
	})
}

// TestEntries is L2: they are the places at which types begin.
func TestEntries(t *testing.T) {
	for i := range all().Entries {
		for what, do := range map[string]func(c *api.Code){
			"one more":       func(c *api.Code) { c.Entries[i]++ },
			"one less":       func(c *api.Code) { c.Entries[i]-- },
			"far above":      func(c *api.Code) { c.Entries[i] = math.MaxInt },
			"far below":      func(c *api.Code) { c.Entries[i] = math.MinInt },
			"behind all":     func(c *api.Code) { c.Entries[i] = len(c.Ops) },
			"left out":       func(c *api.Code) { c.Entries = slices.Delete(c.Entries, i, i+1) },
			"doubled":        func(c *api.Code) { c.Entries = slices.Insert(c.Entries, i, c.Entries[i]) },
			"one that is no": func(c *api.Code) { c.Entries = slices.Insert(c.Entries, i, c.Entries[i]+1) },
		} {
			wantVerdicts(t, []verdict{{what + " at " + strconv.Itoa(i), changed(all(), do), false}})
		}
		if i > 0 {
			c := all()
			c.Entries[i], c.Entries[i-1] = c.Entries[i-1], c.Entries[i]
			wantVerdicts(t, []verdict{{"out of order", c, false}})
		}
	}
	wantChanges(t, all(), false, map[string]func(c *api.Code){
		"in disorder":    func(c *api.Code) { slices.Reverse(c.Entries) },
		"one too many":   func(c *api.Code) { c.Entries = append(c.Entries, len(c.Ops)) },
		"one too few":    func(c *api.Code) { c.Entries = c.Entries[:len(c.Entries)-1] },
		"0 too many":     func(c *api.Code) { c.Entries = append(c.Entries, 0) },
		"all of them 0":  func(c *api.Code) { c.Entries = make([]int, len(c.Entries)) },
		"half of them":   func(c *api.Code) { c.Entries = c.Entries[:9] },
		"the first ones": func(c *api.Code) { c.Entries = c.Entries[:8] },
	})
}

// TestOperations is L2: none is left out, doubled, in disorder, or of another number; none stands behind the last one.
func TestOperations(t *testing.T) {
	for i := range all().Ops {
		for what, do := range map[string]func(c *api.Code){
			"left out":  func(c *api.Code) { c.Ops = slices.Delete(c.Ops, i, i+1) },
			"doubled":   func(c *api.Code) { c.Ops = slices.Insert(c.Ops, i, c.Ops[i]) },
			"cut off":   func(c *api.Code) { c.Ops = c.Ops[:i] },
			"an end":    func(c *api.Code) { c.Ops = slices.Insert(c.Ops, i, end()) },
			"an int":    func(c *api.Code) { c.Ops = slices.Insert(c.Ops, i, api.Op{Code: api.OpInt}) },
			"far above": func(c *api.Code) { c.Ops[i].Code = math.MaxInt },
			"far below": func(c *api.Code) { c.Ops[i].Code = math.MinInt },
			"19":        func(c *api.Code) { c.Ops[i].Code = 19 },
			"-1":        func(c *api.Code) { c.Ops[i].Code = -1 },
		} {
			wantVerdicts(t, []verdict{{what + " at " + strconv.Itoa(i), changed(all(), do), false}})
		}
	}
	for code := range 19 {
		wantVerdicts(t, []verdict{{"one more behind the last", changed(all(), func(c *api.Code) { c.Ops = append(c.Ops, api.Op{Code: code}) }), false}})
	}
	wantChanges(t, all(), false, map[string]func(c *api.Code){
		"the last end lacks": func(c *api.Code) { c.Ops = c.Ops[:len(c.Ops)-1] },
		"another last end":   func(c *api.Code) { c.Ops[len(c.Ops)-1].Code = api.OpVoid },
		"a type more":        func(c *api.Code) { c.Ops = append(c.Ops, fixed(1)[0], end()) },
		"a type less":        func(c *api.Code) { c.Ops = c.Ops[:len(c.Ops)-2] },
		"an end for an int":  func(c *api.Code) { c.Ops[31] = end() },
		"an int for an end":  func(c *api.Code) { c.Ops[38] = api.Op{Code: api.OpInt} },
		"a call at the head": func(c *api.Code) { c.Ops[18] = api.Op{Code: api.OpCall, B: 16} },
		"an end at the head": func(c *api.Code) { c.Ops[18] = end() },
	})
}

// parts say which of A, B and T an operation has.
func parts(code int) string {
	switch code {
	case api.OpEnum:
		return "T"
	case api.OpFixed, api.OpOpaque, api.OpString, api.OpStruct:
		return "A"
	case api.OpArray, api.OpList:
		return "AB"
	case api.OpMaybe, api.OpCall:
		return "B"
	case api.OpUnion:
		return "ABT"
	}
	return ""
}

// TestWhatIsNotThere is L2: an A, B or T where there is none.
func TestWhatIsNotThere(t *testing.T) {
	seen := map[int]bool{}
	for i, op := range all().Ops {
		seen[op.Code] = true
		for part, put := range map[byte][]func(op *api.Op){
			'A': {func(op *api.Op) { op.A = 1 }, func(op *api.Op) { op.A = -1 }, func(op *api.Op) { op.A = math.MinInt }},
			'B': {func(op *api.Op) { op.B = 2 }, func(op *api.Op) { op.B = -1 }, func(op *api.Op) { op.B = 16 }},
			'T': {func(op *api.Op) { op.T = []int{0} }, func(op *api.Op) { op.T = []int{1, 2} }},
		} {
			if slices.Contains([]byte(parts(op.Code)), part) {
				continue
			}
			for _, one := range put {
				c := all()
				one(&c.Ops[i])
				wantVerdicts(t, []verdict{{string(part) + " of " + strconv.Itoa(op.Code), c, false}})
			}
		}
		// A list without elements is none.
		c := all()
		c.Ops[i].T = append([]int{}, c.Ops[i].T...)
		wantVerdicts(t, []verdict{{"an empty T", c, true}})
	}
	for code := range 19 {
		if !seen[code] {
			t.Errorf("no operation %d", code)
		}
	}
}

// TestStruct is L2: which operations may be fields, and how many.
func TestStruct(t *testing.T) {
	for code := -1; code <= 20; code++ {
		wantVerdicts(t, []verdict{{"a field " + strconv.Itoa(code), made(append(structure(1, 1)[:2], api.Op{Code: code})), code >= api.OpInt && code <= api.OpBool}})
	}
	for place := range 10 {
		field := api.Op{Code: api.OpCall, B: place}
		wantVerdicts(t, []verdict{{"a call of " + strconv.Itoa(place), made(ops{{Code: api.OpStruct, A: 1}, field}, fixed(1)), place == 9}})
	}
	wantChanges(t, made(structure(1, 9, 7), fixed(1)), false, map[string]func(c *api.Code){
		"a field more than said":  func(c *api.Code) { c.Ops[16].A = 2 },
		"a field less than said":  func(c *api.Code) { c.Ops[16].A = 4 },
		"no fields are said":      func(c *api.Code) { c.Ops[16].A = 0 },
		"so many are not there":   func(c *api.Code) { c.Ops[16].A = 6 },
		"as many as are left":     func(c *api.Code) { c.Ops[16].A = 5 },
		"all of 64":               func(c *api.Code) { c.Ops[16].A = 64 },
		"below 0":                 func(c *api.Code) { c.Ops[16].A = -1 },
		"far below":               func(c *api.Code) { c.Ops[16].A = math.MinInt },
		"far above":               func(c *api.Code) { c.Ops[16].A = math.MaxInt },
		"a call of none":          func(c *api.Code) { c.Ops[18].B = 23 },
		"a call of the middle":    func(c *api.Code) { c.Ops[18].B = 18 },
		"a call below 0":          func(c *api.Code) { c.Ops[18].B = -1 },
		"a call far away":         func(c *api.Code) { c.Ops[18].B = math.MaxInt },
		"a call of an end":        func(c *api.Code) { c.Ops[18].B = 20 },
		"a call of itself":        func(c *api.Code) { c.Ops[18].B = 16 },
		"an enum for a field":     func(c *api.Code) { c.Ops[18] = api.Op{Code: api.OpEnum} },
		"a fixed for a field":     func(c *api.Code) { c.Ops[18] = api.Op{Code: api.OpFixed, A: 1} },
		"a struct for a field":    func(c *api.Code) { c.Ops[18] = api.Op{Code: api.OpStruct, A: 1} },
		"an end among the fields": func(c *api.Code) { c.Ops[18] = end() },
	})
	wantVerdicts(t, []verdict{
		{"no field", made(structure()), false},
		{"1", made(structure(1)), true},
		{"64", made(structure(slices.Repeat([]int{1}, 64)...)), true},
		{"65", made(structure(slices.Repeat([]int{1}, 65)...)), false},
		{"64 calls", made(fixed(1), structure(slices.Repeat([]int{8}, 64)...)), true},
		{"65 calls", made(fixed(1), structure(slices.Repeat([]int{8}, 65)...)), false},
	})
}

// TestEnums is L2: how many numbers, and which.
func TestEnums(t *testing.T) {
	wantVerdicts(t, []verdict{
		{"none", made(enum()), false},
		{"1", made(enum(5)), true},
		{"64", made(enum(upTo(64)...)), true},
		{"65", made(enum(upTo(65)...)), false},
		{"far more", made(enum(upTo(5000)...)), false},
		{"the same twice", made(enum(1, 2, 1)), false},
		{"side by side", made(enum(1, 1)), false},
		{"0 twice", made(enum(0, 0)), false},
		{"at the bounds", made(enum(math.MinInt32, math.MaxInt32)), true},
		{"below", made(enum(math.MinInt32 - 1)), false},
		{"above", made(enum(0, math.MaxInt32+1)), false},
		{"a word", made(enum(api.MaxWord)), false},
		{"far below", made(enum(math.MinInt)), false},
		{"far above", made(enum(1, math.MaxInt)), false},
		{"the same numbers in two", made(enum(1, 2), enum(2, 1), enum(1, 2)), true},
	})
}

// TestSizes is L2: sizes at their bounds and one beyond.
func TestSizes(t *testing.T) {
	for size, rights := range map[int][2]bool{
		math.MinInt:     {false, false},
		-1:              {false, false},
		0:               {false, true},
		1:               {true, true},
		999:             {true, true},
		1000:            {true, true},
		1001:            {false, true},
		api.MaxWord:     {false, true},
		api.MaxWord + 1: {false, false},
		math.MaxInt:     {false, false},
	} {
		at := " of " + strconv.Itoa(size)
		wantVerdicts(t, []verdict{
			{"fixed" + at, made(fixed(size)), rights[0]},
			// Such a union's least value has four bytes.
			{"array of unions" + at, made(union(1, -1, 0, 0), array(size, 8)), rights[0] && size <= 250},
			{"opaque" + at, made(opaque(size)), rights[1]},
			{"text" + at, made(text(size)), rights[1]},
			{"list" + at, made(list(size, 1)), rights[1]},
		})
	}
	wantVerdicts(t, []verdict{
		{"a list of great ones", made(fixed(1000), list(api.MaxWord, 8)), true},
		{"a maybe with a size", changed(made(maybe(1)), func(c *api.Code) { c.Ops[16].A = 1 }), false},
	})
}

// TestOf is L2: what B may be.
func TestOf(t *testing.T) {
	for what, one := range map[string]func(place int) ops{
		"array": func(place int) ops { return array(1, place) },
		"list":  func(place int) ops { return list(1, place) },
		"maybe": maybe,
	} {
		for place := range 12 {
			wantVerdicts(t, []verdict{{what + " of " + strconv.Itoa(place), made(one(place), fixed(1), structure(1, 9)), place >= 1 && place <= 10 && (place != 8 || what != "array")}})
		}
		wantChanges(t, made(one(9), structure(1, 2)), false, map[string]func(c *api.Code){
			what + " of the middle":     func(c *api.Code) { c.Ops[16].B = 19 },
			what + " of an end":         func(c *api.Code) { c.Ops[16].B = 17 },
			what + " of the first end":  func(c *api.Code) { c.Ops[16].B = 1 },
			what + " of nothing":        func(c *api.Code) { c.Ops[16].B = 0 },
			what + " of the end of all": func(c *api.Code) { c.Ops[16].B = len(c.Ops) },
			what + " below 0":           func(c *api.Code) { c.Ops[16].B = -1 },
			what + " far below":         func(c *api.Code) { c.Ops[16].B = math.MinInt },
			what + " far above":         func(c *api.Code) { c.Ops[16].B = math.MaxInt },
			what + " of a place":        func(c *api.Code) { c.Ops[16].B = 9 },
		})
	}
}

// TestDiscriminants is L2: what tells the arms of a union apart.
func TestDiscriminants(t *testing.T) {
	others := []ops{enum(0, 1), fixed(1), opaque(1), text(1), array(1, 1), list(1, 1), maybe(1), structure(1), union(1, -1, 0, 0)}
	for place := range 8 + len(others) {
		right := place == api.Int || place == api.Uint || place == api.Bool || place == 8
		c := made(append(slices.Clone(others), union(place, -1, 0, 0))...)
		wantVerdicts(t, []verdict{{"of " + strconv.Itoa(place), c, right}})
	}
	wantVerdicts(t, []verdict{
		{"of itself", made(union(8, -1, 0, 0)), false},
		{"of an enum behind it", made(union(9, -1, 0, 0), enum(0)), true},
	})
	wantChanges(t, made(union(1, -1, 0, 0)), false, map[string]func(c *api.Code){
		"of no entry":     func(c *api.Code) { c.Ops[16].B = 3 },
		"of an entry -1":  func(c *api.Code) { c.Ops[16].B = -1 },
		"far above":       func(c *api.Code) { c.Ops[16].B = math.MaxInt },
		"far below":       func(c *api.Code) { c.Ops[16].B = math.MinInt },
		"of the end":      func(c *api.Code) { c.Ops[16].B = 18 },
		"of the last end": func(c *api.Code) { c.Ops[16].B = 17 },
	})
}

// TestCases is L2: cases are numbers of the discriminant, all unlike.
func TestCases(t *testing.T) {
	for n, rights := range map[int][4]bool{ // of an Int, a Uint, a Bool, an Enum of 5 and -1
		math.MinInt:       {false, false, false, false},
		math.MinInt32 - 1: {false, false, false, false},
		math.MinInt32:     {true, false, false, false},
		-1:                {true, false, false, true},
		0:                 {true, true, true, false},
		1:                 {true, true, true, false},
		2:                 {true, true, false, false},
		5:                 {true, true, false, true},
		math.MaxInt32:     {true, true, false, false},
		math.MaxInt32 + 1: {false, true, false, false},
		api.MaxWord:       {false, true, false, false},
		api.MaxWord + 1:   {false, false, false, false},
		math.MaxInt:       {false, false, false, false},
	} {
		for i, of := range []int{api.Int, api.Uint, api.Bool, 8} {
			first := []int{1, 1, 1, 5}[i]
			what := "case " + strconv.Itoa(n) + " of " + strconv.Itoa(of)
			wantVerdicts(t, []verdict{
				{what, made(enum(5, -1), union(of, -1, n, 0)), rights[i]},
				{what + " with else", made(enum(5, -1), union(of, 0, n, 0)), rights[i]},
				{what + " as the second one", made(enum(5, -1), union(of, -1, first, 1, n, 0)), rights[i] && n != first},
				{what + " in one row", made(enum(5, -1), union(of, -1, first, 0, n, 0)), rights[i] && n != first},
			})
		}
	}
	wantVerdicts(t, []verdict{
		{"twice, far apart", made(union(1, -1, 3, 0, 4, 1, 5, 0, 3, 2)), false},
		{"twice, to one type", made(union(1, -1, 3, 1, 4, 1, 3, 1)), false},
		{"all unlike", made(union(1, -1, 3, 0, 4, 1, 5, 0, 6, 2)), true},
		{"an entry that is a case, too", made(union(1, -1, 16, 8, 0, 9), list(1, 8)), false},
		{"below a list", made(union(1, -1, 18, 9, 0, 9), list(1, 8)), true},
		{"all of an enum", made(enum(1, 2), union(8, 0, 2, 1, 1, 1)), true},
		{"one more than the enum has", made(enum(1, 2), union(8, 0, 2, 1, 1, 1, 3, 1)), false},
	})
}

// TestTurns is L2: T has pairs, one at least, and the second of each is an entry; so is A, or -1.
func TestTurns(t *testing.T) {
	good := made(union(1, 9, 1, 9, 2, 0), structure(1, 2))
	wantChanges(t, good, false, map[string]func(c *api.Code){
		"empty":                func(c *api.Code) { c.Ops[16].T = nil },
		"empty, without else":  func(c *api.Code) { c.Ops[16].T, c.Ops[16].A = nil, -1 },
		"one number":           func(c *api.Code) { c.Ops[16].T = []int{1} },
		"three":                func(c *api.Code) { c.Ops[16].T = []int{1, 18, 2} },
		"five":                 func(c *api.Code) { c.Ops[16].T = append(c.Ops[16].T, 3) },
		"no entry":             func(c *api.Code) { c.Ops[16].T[1] = 17 },
		"the middle of a type": func(c *api.Code) { c.Ops[16].T[3] = 19 },
		"the end of all":       func(c *api.Code) { c.Ops[16].T[3] = len(c.Ops) },
		"-1 for an entry":      func(c *api.Code) { c.Ops[16].T[3] = -1 },
		"far above":            func(c *api.Code) { c.Ops[16].T[3] = math.MaxInt },
		"far below":            func(c *api.Code) { c.Ops[16].T[1] = math.MinInt },
		"itself":               func(c *api.Code) { c.Ops[16].T[3] = 16 },
		"two that are none":    func(c *api.Code) { c.Ops[16].T = []int{1, 17, 2, 17} },
		"A is no entry":        func(c *api.Code) { c.Ops[16].A = 1 },
		"A is in the middle":   func(c *api.Code) { c.Ops[16].A = 20 },
		"A is -2":              func(c *api.Code) { c.Ops[16].A = -2 },
		"A is far above":       func(c *api.Code) { c.Ops[16].A = math.MaxInt },
		"A is far below":       func(c *api.Code) { c.Ops[16].A = math.MinInt },
		"A is itself":          func(c *api.Code) { c.Ops[16].A = 16 },
		"A is behind all":      func(c *api.Code) { c.Ops[16].A = len(c.Ops) },
		"cases and entries":    func(c *api.Code) { c.Ops[16].T = []int{18, 1, 0, 2} },
	})
	wantChanges(t, good, true, map[string]func(c *api.Code){
		"A is -1":            func(c *api.Code) { c.Ops[16].A = -1 },
		"A is nothing":       func(c *api.Code) { c.Ops[16].A = 0 },
		"A is a bool":        func(c *api.Code) { c.Ops[16].A = 14 },
		"one pair":           func(c *api.Code) { c.Ops[16].T = c.Ops[16].T[:2] },
		"the other one":      func(c *api.Code) { c.Ops[16].T = c.Ops[16].T[2:] },
		"both to one":        func(c *api.Code) { c.Ops[16].T[3] = 18 },
		"each to its number": func(c *api.Code) { c.Ops[16].T = []int{18, 18, 0, 0, 16, 2} },
	})
}

// rows are pairs in rows of some lengths, which lead to nothing and to an int in turns.
func rows(lengths ...int) []int {
	var turns []int
	n := 0
	for i, length := range lengths {
		for range length {
			turns = append(turns, n, i%2)
			n++
		}
	}
	return turns
}

// TestRows is L2: each 64 pairs of a row, or what is left of it, count for an arm; there are 64 of these at the most.
func TestRows(t *testing.T) {
	full := slices.Repeat([]int{64}, 64)
	ones := slices.Repeat([]int{1}, 64)
	for what, c := range map[string]struct {
		lengths []int
		right   bool
	}{
		"a row of 64":                        {[]int{64}, true},
		"a row of 65":                        {[]int{65}, true},
		"a row of 64 times 64":               {[]int{64 * 64}, true},
		"and one more":                       {[]int{64*64 + 1}, false},
		"63 times 64 and 1":                  {[]int{63*64 + 1}, true},
		"and one more of another":            {[]int{63*64 + 1, 1}, false},
		"63 times 64, and one of another":    {[]int{63 * 64, 1}, true},
		"63 times 64, and two others":        {[]int{63 * 64, 1, 1}, false},
		"64 arms":                            {ones, true},
		"65 arms":                            {append(slices.Clone(ones), 1), false},
		"64 full ones":                       {full, true},
		"one is of 65":                       {append(slices.Clone(full[1:]), 65), false},
		"one is of 63, another one of 65":    {append(slices.Clone(full[2:]), 63, 65), false},
		"62 full ones and one of 128":        {append(slices.Clone(full[2:]), 128), true},
		"62 full ones and one of 129":        {append(slices.Clone(full[2:]), 129), false},
		"32 of 65":                           {slices.Repeat([]int{65}, 32), true},
		"33 of 65":                           {slices.Repeat([]int{65}, 33), false},
		"32 of 128":                          {slices.Repeat([]int{128}, 32), true},
		"31 of 128, one of 129":              {append(slices.Repeat([]int{128}, 31), 129), false},
		"21 of 129":                          {slices.Repeat([]int{129}, 21), true},
		"22 of 129":                          {slices.Repeat([]int{129}, 22), false},
		"far more":                           {[]int{100000}, false},
		"64 arms, the first one of 64":       {append([]int{64}, ones[1:]...), true},
		"64 arms, the first one of 65":       {append([]int{65}, ones[1:]...), false},
		"64 arms, the last one of 65":        {append(slices.Clone(ones[1:]), 65), false},
		"2 of 64 that lead to one, parted":   {[]int{64, 0, 64}, true},
		"65 of 64, parted by nothing at all": {slices.Repeat([]int{64, 0}, 65), false},
	} {
		for _, otherwise := range []int{-1, 0, 1} {
			wantVerdicts(t, []verdict{{what + ", else " + strconv.Itoa(otherwise), made(union(1, otherwise, rows(c.lengths...)...)), c.right}})
		}
	}
}

// TestWithinItself is L2: a type that has itself within, by each of the ways, and those that may.
func TestWithinItself(t *testing.T) {
	wantVerdicts(t, []verdict{
		{"array", made(array(1, 8)), false},
		{"call", made(structure(8)), false},
		{"a call behind others", made(structure(1, 2, 9, 8), fixed(1)), false},
		{"a union's first arm", made(union(1, -1, 0, 8)), false},
		{"a union's later arm", made(union(1, -1, 0, 0, 1, 1, 2, 8)), false},
		{"a union's else", made(union(1, 8, 0, 0)), false},
		{"a union's discriminant", made(union(8, -1, 0, 0)), false},
		{"list", made(list(1, 8)), true},
		{"a list of none", made(list(0, 8)), true},
		{"maybe", made(maybe(8)), true},
		{"array, struct", made(array(1, 9), structure(8)), false},
		{"struct, union", made(structure(1, 9), union(1, -1, 0, 0, 1, 8)), false},
		{"struct, else", made(structure(1, 9), union(1, 8, 0, 0)), false},
		{"union, array", made(union(1, -1, 0, 0, 1, 9), array(1, 8)), false},
		{"three", made(structure(9), structure(10), structure(8)), false},
		{"three, not from the first on", made(structure(9), structure(10), structure(9)), false},
		{"three, by a list", made(structure(9), list(1, 10), structure(8)), true},
		{"three, by a maybe", made(structure(9), maybe(10), structure(8)), true},
		{"a list and a way around it", made(structure(9, 10), list(1, 8), structure(8)), false},
		{"one way twice", made(structure(9, 10), structure(11), structure(11), fixed(4)), true},
		{"a union of a union", made(union(1, 10, 0, 9), union(1, -1, 0, 10), structure(1)), true},
		{"lists of each other", made(list(1, 9), list(1, 8)), true},
		{"a list of a struct of a maybe", made(list(1, 9), structure(10, 8), maybe(9)), true},
	})
	var ring []ops
	for i := range 392 {
		ring = append(ring, union(1, -1, 0, 0, 1, 8+(i+1)%392))
	}
	open := slices.Clone(ring)
	open[200] = union(1, -1, 0, 0)
	wantVerdicts(t, []verdict{{"a ring of 392", made(ring...), false}, {"and one that is open", made(open...), true}})
}

// TestLeastBytes is L2: least values of 1000 bytes and more.
func TestLeastBytes(t *testing.T) {
	wantVerdicts(t, []verdict{
		{"125 hypers", made(array(125, 3)), true},
		{"126 hypers", made(array(126, 3)), false},
		{"126 uhypers", made(array(126, 4)), false},
		{"126 doubles", made(array(126, 6)), false},
		{"250 ints", made(array(250, 1)), true},
		{"251 ints", made(array(251, 1)), false},
		{"251 floats", made(array(251, 5)), false},
		{"251 bools", made(array(251, 7)), false},
		{"251 enums", made(enum(1), array(251, 8)), false},
		{"250 opaques", made(opaque(1000), array(250, 8)), true},
		{"251 opaques", made(opaque(0), array(251, 8)), false},
		{"251 strings", made(text(0), array(251, 8)), false},
		{"251 lists", made(list(0, 1), array(251, 8)), false},
		{"250 maybes", made(maybe(1), array(250, 8)), true},
		{"251 maybes", made(maybe(1), array(251, 8)), false},
		{"997 bytes", made(fixed(997)), true},
		{"250 of one byte", made(fixed(1), array(250, 8)), true},
		{"251 of one byte", made(fixed(1), array(251, 8)), false},
		{"125 of five bytes", made(fixed(5), array(125, 8)), true},
		{"126 of five bytes", made(fixed(5), array(126, 8)), false},
		{"a struct of 1000", made(fixed(996), structure(8, 1)), true},
		{"a struct of 1004", made(fixed(997), structure(8, 1)), false},
		{"a struct of 1004 by a hyper", made(fixed(996), structure(3, 8)), false},
		{"twice 500", made(fixed(500), structure(8, 8)), true},
		{"twice 504", made(fixed(501), structure(8, 8)), false},
		{"a union of 1000", made(fixed(996), union(1, -1, 0, 8)), true},
		{"a union of 1004", made(fixed(997), union(1, -1, 0, 8)), false},
		{"its second arm does not count", made(fixed(1000), union(1, 8, 0, 0, 1, 8)), true},
		{"its first arm does", made(fixed(1000), union(1, 0, 1, 8, 0, 0)), false},
		{"a list and a maybe of great ones", made(fixed(1000), list(9, 8), maybe(8)), true},
		{"far beyond", made(array(1000, 9), array(1000, 10), array(1000, 11), array(1000, 12), array(1000, 13), array(1000, 14), array(1000, 1)), false},
	})
	// 2^61 hypers: bytes that an int would count round to 0.
	var doubling []ops
	for i := range 60 {
		doubling = append(doubling, array(2, 8+i+1))
	}
	wantVerdicts(t, []verdict{{"2^61 hypers", made(append(doubling, array(2, 3))...), false}})
	var wide []ops
	for range 6 {
		places := slices.Repeat([]int{8 + len(wide) + 1}, 64)
		wide = append(wide, structure(places...))
	}
	wantVerdicts(t, []verdict{{"64^6 ints", made(append(wide, fixed(4))...), false}})
}

// nested are n types that have one another within, the last one an int's.
func nested(n int, one func(place int) ops) []ops {
	var out []ops
	for i := range n {
		place := 8 + i + 1
		if i == n-1 {
			place = 1
		}
		out = append(out, one(place))
	}
	return out
}

// TestDepths is L2: least values of a depth of 64 and 65, by each of the ways.
func TestDepths(t *testing.T) {
	for what, one := range map[string]func(place int) ops{
		"structs": func(place int) ops { return structure(place) },
		"arrays":  func(place int) ops { return array(1, place) },
		"unions":  func(place int) ops { return union(1, -1, 0, place) },
		"deepest": func(place int) ops { return structure(1, place, 1) },
	} {
		wantVerdicts(t, []verdict{
			{"64 " + what, made(nested(63, one)...), true},
			{"65 " + what, made(nested(64, one)...), false},
			{"far more " + what, made(nested(392, one)...), false},
		})
	}
	for what, one := range map[string]func(place int) ops{
		"lists":      func(place int) ops { return list(1, place) },
		"maybes":     func(place int) ops { return maybe(place) },
		"later arms": func(place int) ops { return union(1, -1, 0, 0, 1, place) },
		"elses":      func(place int) ops { return union(1, place, 0, 0) },
	} {
		wantVerdicts(t, []verdict{{"392 " + what, made(nested(392, one)...), true}})
	}
	deep := nested(63, func(place int) ops { return structure(place) })
	wantVerdicts(t, []verdict{
		{"64 below a list", made(append(slices.Clone(deep), list(1, 8))...), true},
		{"64 below a struct", made(append(slices.Clone(deep), structure(8))...), false},
		{"an arm of nothing is one deeper", made(append(slices.Clone(deep[:62]), union(1, -1, 0, 0))...), true},
	})
}

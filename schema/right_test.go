package schema_test

import (
	"math"
	"reflect"
	"strconv"
	"strings"
	"testing"

	"callbox/api"
	"callbox/schema"
)

const goodSource = "struct point { int x; int y; };" + // 8
	"enum e { A = 1, B = -7 };" + // 9
	"union u switch (e k) { case A: point p; case B: void; };" + // 10
	"typedef opaque f[5];" + // 11
	"typedef opaque o<9>;" + // 12
	"typedef string s<>;" + // 13
	"typedef point r[3];" + // 14
	"typedef point l<7>;" + // 15
	"typedef point *m;" + // 16
	"union v switch (int k) { case 1: case 2: point p; case 3: void; default: hyper q; };" + // 17
	"union w switch (bool k) { case 0: int a; default: void; };" + // 18
	"union z switch (unsigned int k) { case 4294967295: int a; };" + // 19
	"struct n { n *next; n list<>; };" + // 20, 21, 22
	"const C = 4294967295;" +
	"program P { version V { void N(void) = 0; point F(int, u, m, r) = 1; } = 2; version W { int G(void) = 1; } = 3; } = 7;" +
	"program Q { version V { int N(void) = 1; } = 2; } = 8;"

func good(t *testing.T) api.Schema {
	t.Helper()
	return compiled(t, goodSource)
}

// numbered is a name of its own for each number.
func numbered(letter string, i int) string { return letter + strconv.Itoa(i) }

func fieldsOf(n int) []api.Field {
	var out []api.Field
	for i := range n {
		out = append(out, api.Field{Name: numbered("f", i), Type: 1})
	}
	return out
}

func armsOf(n int) []api.Arm {
	var out []api.Arm
	for i := range n {
		out = append(out, api.Arm{Cases: []int{i}, Name: numbered("a", i), Type: 1})
	}
	return out
}

func casesOf(n int) []int {
	var out []int
	for i := range n {
		out = append(out, i)
	}
	return out
}

func procsOf(n int) []api.Proc {
	var out []api.Proc
	for i := range n {
		out = append(out, api.Proc{Name: numbered("p", i), Number: i})
	}
	return out
}

func versionsOf(n int) []api.Version {
	var out []api.Version
	for i := range n {
		out = append(out, api.Version{Name: numbered("v", i), Number: i, Procs: procsOf(1)})
	}
	return out
}

// addEnum lays an enum of n members into a schema, with the names that they need.
func addEnum(x *api.Schema, n int) *api.Type {
	var members []api.Member
	for i := range n {
		members = append(members, api.Member{Name: numbered("m", i), Number: i})
		x.Names = append(x.Names, constant(numbered("m", i), i))
	}
	x.Types = append(x.Types, enumOf(members...))
	return &x.Types[len(x.Types)-1]
}

func add(x *api.Schema, t api.Type) { x.Types = append(x.Types, t) }

func addConstant(x *api.Schema, name string, n int) { x.Names = append(x.Names, constant(name, n)) }

// change is what is done to a schema that is right.
type change struct {
	what  string
	right bool
	do    func(x *api.Schema)
}

func checkChanges(t *testing.T, changes []change) {
	t.Helper()
	for _, c := range changes {
		x := good(t)
		c.do(&x)
		before := copied(x)
		if got := schema.Right(x); got != c.right {
			t.Errorf("%s: %t", c.what, got)
		}
		if !reflect.DeepEqual(copied(x), before) {
			t.Errorf("%s: written into", c.what)
		}
	}
}

func TestRightTypes(t *testing.T) {
	if !schema.Right(good(t)) || !schema.Right(api.Schema{Types: always()}) || schema.Right(api.Schema{}) {
		t.Fatal("Right")
	}
	for n := range 8 {
		if schema.Right(api.Schema{Types: always()[:n]}) {
			t.Errorf("%d types", n)
		}
	}
	changes := []change{
		{"400 types", true, func(x *api.Schema) {
			for len(x.Types) < 400 {
				add(x, sized(api.Opaque, 1, 0))
			}
		}},
		{"401 types", false, func(x *api.Schema) {
			for len(x.Types) < 401 {
				add(x, sized(api.Opaque, 1, 0))
			}
		}},
		{"the first ones in another order", false, func(x *api.Schema) { x.Types[1], x.Types[2] = x.Types[2], x.Types[1] }},
	}
	for kind := -1; kind <= 18; kind++ {
		if kind < 8 || kind > 16 {
			changes = append(changes, change{"a later type of the kind " + strconv.Itoa(kind), false, func(x *api.Schema) { add(x, api.Type{Kind: kind}) }})
		}
	}
	for place := range 8 {
		for kind := range 17 {
			changes = append(changes, change{"the kind of " + strconv.Itoa(place), kind == place, func(x *api.Schema) { x.Types[place].Kind = kind }})
		}
	}
	// What a kind has not.
	has := map[int]string{api.Enum: "members", api.Fixed: "size", api.Opaque: "size", api.String: "size", api.Array: "size of", api.List: "size of", api.Maybe: "of", api.Struct: "fields", api.Union: "of arms else"}
	for place := range 20 {
		own := has[good(t).Types[place].Kind]
		for what, do := range map[string]func(y *api.Type){
			"size":    func(y *api.Type) { y.Size = 1 },
			"of":      func(y *api.Type) { y.Of = 1 },
			"members": func(y *api.Type) { y.Members = []api.Member{{Name: "A", Number: 1}} },
			"fields":  func(y *api.Type) { y.Fields = fieldsOf(1) },
			"arms":    func(y *api.Type) { y.Arms = armsOf(1) },
		} {
			if !strings.Contains(" "+own+" ", " "+what+" ") {
				changes = append(changes, change{what + " of " + strconv.Itoa(place), false, func(x *api.Schema) { do(&x.Types[place]) }})
			}
		}
		if !strings.Contains(own, "else") {
			changes = append(changes,
				change{"else of " + strconv.Itoa(place), false, func(x *api.Schema) { x.Types[place].Else = -1 }},
				change{"else 1 of " + strconv.Itoa(place), false, func(x *api.Schema) { x.Types[place].Else = 1 }},
				change{"no lists, but not nil, of " + strconv.Itoa(place), true, func(x *api.Schema) {
					y := &x.Types[place]
					if len(y.Members) == 0 {
						y.Members = []api.Member{}
					}
					if len(y.Fields) == 0 {
						y.Fields = make([]api.Field, 0, 3)
					}
					y.Arms = []api.Arm{}
				}})
		}
	}
	checkChanges(t, changes)
}

// TestRightPlaces: each Of, and each type of a field, an arm, a name, a procedure.
func TestRightPlaces(t *testing.T) {
	var changes []change
	for what, set := range map[string]func(x *api.Schema, n int){
		"of an array":  func(x *api.Schema, n int) { x.Types[14].Of = n },
		"of a list":    func(x *api.Schema, n int) { x.Types[15].Of = n },
		"of a maybe":   func(x *api.Schema, n int) { x.Types[16].Of = n },
		"of a field":   func(x *api.Schema, n int) { x.Types[8].Fields[1].Type = n },
		"of an arm":    func(x *api.Schema, n int) { x.Types[17].Arms[0].Type = n },
		"of an else":   func(x *api.Schema, n int) { x.Types[17].Arms[2].Type = n },
		"of a name":    func(x *api.Schema, n int) { x.Names[0].Value = n },
		"of arguments": func(x *api.Schema, n int) { x.Programs[0].Versions[0].Procs[1].Args[3] = n },
		"of a result":  func(x *api.Schema, n int) { x.Programs[0].Versions[0].Procs[1].Result = n },
	} {
		for _, n := range []int{math.MinInt, -1, 0, 1, 7, 13, 22, 23, 24, 400, math.MaxInt} {
			right := n >= 1 && n <= 22 || n == 0 && what == "of a result"
			changes = append(changes, change{what + " " + strconv.Itoa(n), right, func(x *api.Schema) { set(x, n) }})
		}
	}
	for _, n := range []int{math.MinInt, -1, 0, 3, 4, 5, 6, 8, 10, 11, 13, 14, 16, 23, 400, math.MaxInt} {
		changes = append(changes, change{"discriminant " + strconv.Itoa(n), false, func(x *api.Schema) { x.Types[17].Of = n }})
	}
	for _, n := range []int{1, 2} {
		changes = append(changes, change{"discriminant " + strconv.Itoa(n), true, func(x *api.Schema) { x.Types[17].Of = n }})
	}
	checkChanges(t, changes)
}

func TestRightEnums(t *testing.T) {
	checkChanges(t, []change{
		{"64 members", true, func(x *api.Schema) { addEnum(x, 64) }},
		{"65 members", false, func(x *api.Schema) { addEnum(x, 65) }},
		{"no member", false, func(x *api.Schema) { addEnum(x, 0) }},
		{"one member", true, func(x *api.Schema) { addEnum(x, 1) }},
		{"a number twice", false, func(x *api.Schema) { addEnum(x, 2).Members[1].Number = 0; x.Names[len(x.Names)-1].Value = 0 }},
		{"the least number", true, func(x *api.Schema) {
			addEnum(x, 2).Members[1].Number = -1 << 31
			x.Names[len(x.Names)-1].Value = -1 << 31
		}},
		{"the greatest number", true, func(x *api.Schema) {
			addEnum(x, 2).Members[1].Number = 1<<31 - 1
			x.Names[len(x.Names)-1].Value = 1<<31 - 1
		}},
		{"a greater number", false, func(x *api.Schema) {
			addEnum(x, 2).Members[1].Number = 1 << 31
			x.Names[len(x.Names)-1].Value = 1 << 31
		}},
		{"a lesser number", false, func(x *api.Schema) {
			addEnum(x, 2).Members[1].Number = -1<<31 - 1
			x.Names[len(x.Names)-1].Value = -1<<31 - 1
		}},
		{"a member of another number", false, func(x *api.Schema) { addEnum(x, 2).Members[1].Number = 5 }},
		{"a name of another number", false, func(x *api.Schema) { addEnum(x, 2); x.Names[len(x.Names)-1].Value = 5 }},
		{"a member that is not named", false, func(x *api.Schema) { addEnum(x, 2); x.Names = x.Names[:len(x.Names)-1] }},
		{"a member that is a type", false, func(x *api.Schema) { addEnum(x, 2); x.Names[len(x.Names)-1].Const = false }},
		{"a member that is a program", false, func(x *api.Schema) {
			y := addEnum(x, 1)
			x.Names = x.Names[:len(x.Names)-1]
			y.Members[0] = api.Member{Name: "P", Number: 0}
		}},
		{"TRUE as a member", false, func(x *api.Schema) { add(x, enumOf(api.Member{Name: "TRUE", Number: 1})) }},
		{"FALSE as a member", false, func(x *api.Schema) { add(x, enumOf(api.Member{Name: "FALSE", Number: 0})) }},
		{"a member that stands nowhere, of the number 0", false, func(x *api.Schema) { add(x, enumOf(api.Member{Name: "nobody", Number: 0})) }},
		{"a member without a name", false, func(x *api.Schema) { add(x, enumOf(api.Member{})) }},
		{"a member whose name is a word", false, func(x *api.Schema) {
			add(x, enumOf(api.Member{Name: "int", Number: 1}))
			addConstant(x, "int", 1)
		}},
		{"a member that another enum has", true, func(x *api.Schema) { add(x, enumOf(api.Member{Name: "A", Number: 1})) }},
		{"a member that a const says", true, func(x *api.Schema) {
			addConstant(x, "K", 3)
			add(x, enumOf(api.Member{Name: "K", Number: 3}))
		}},
		{"a member twice", false, func(x *api.Schema) {
			add(x, enumOf(api.Member{Name: "A", Number: 1}, api.Member{Name: "A", Number: 1}))
		}},
		{"a case that is no number of the enum any more", false, func(x *api.Schema) { x.Types[9].Members = x.Types[9].Members[:1] }},
	})
}

func TestRightSizes(t *testing.T) {
	var changes []change
	for _, n := range []int{math.MinInt, -1, 0, 1, 2, 1000, 1001, 1 << 31, 1<<32 - 1, 1 << 32, math.MaxInt} {
		fixed, loose := n >= 1 && n <= 1000, n >= 0 && n <= 1<<32-1
		digits := strconv.Itoa(n)
		changes = append(changes,
			change{"Fixed " + digits, fixed, func(x *api.Schema) { x.Types[11].Size = n }},
			change{"Opaque " + digits, loose, func(x *api.Schema) { x.Types[12].Size = n }},
			change{"String " + digits, loose, func(x *api.Schema) { x.Types[13].Size = n }},
			change{"List " + digits, loose, func(x *api.Schema) { x.Types[15].Size = n }},
			change{"Array " + digits, fixed && n < 1000, func(x *api.Schema) { x.Types[14].Size = n }})
	}
	changes = append(changes,
		change{"125 points", true, func(x *api.Schema) { x.Types[14].Size = 125 }},
		change{"126 points", false, func(x *api.Schema) { x.Types[14].Size = 126 }},
		change{"250 ints", true, func(x *api.Schema) { add(x, sized(api.Array, 250, 1)) }},
		change{"251 ints", false, func(x *api.Schema) { add(x, sized(api.Array, 251, 1)) }})
	checkChanges(t, changes)
}

func TestRightStructs(t *testing.T) {
	checkChanges(t, []change{
		{"64 fields", true, func(x *api.Schema) { add(x, structOf(fieldsOf(64)...)) }},
		{"65 fields", false, func(x *api.Schema) { add(x, structOf(fieldsOf(65)...)) }},
		{"no field", false, func(x *api.Schema) { add(x, structOf()) }},
		{"a name twice", false, func(x *api.Schema) { x.Types[8].Fields[1].Name = "x" }},
		{"a field called TRUE", true, func(x *api.Schema) { x.Types[8].Fields[1].Name = "TRUE" }},
		{"a field called as a type", true, func(x *api.Schema) { x.Types[8].Fields[1].Name = "point" }},
		{"a field without a name", false, func(x *api.Schema) { x.Types[8].Fields[1].Name = "" }},
		{"a field called int", false, func(x *api.Schema) { x.Types[8].Fields[1].Name = "int" }},
		{"a field called _a", false, func(x *api.Schema) { x.Types[8].Fields[1].Name = "_a" }},
		{"a name of 32 bytes", true, func(x *api.Schema) { x.Types[8].Fields[1].Name = strings.Repeat("a", 32) }},
		{"a name of 33 bytes", false, func(x *api.Schema) { x.Types[8].Fields[1].Name = strings.Repeat("a", 33) }},
	})
}

func TestRightUnions(t *testing.T) {
	checkChanges(t, []change{
		{"64 arms", true, func(x *api.Schema) { add(x, unionOf(1, -1, armsOf(64)...)) }},
		{"65 arms", false, func(x *api.Schema) { add(x, unionOf(1, -1, armsOf(65)...)) }},
		{"64 arms and one without cases", true, func(x *api.Schema) { add(x, unionOf(1, 64, append(armsOf(64), api.Arm{})...)) }},
		{"65 arms and one without cases", false, func(x *api.Schema) { add(x, unionOf(1, 65, append(armsOf(65), api.Arm{})...)) }},
		{"64 cases", true, func(x *api.Schema) { add(x, unionOf(1, -1, api.Arm{Cases: casesOf(64)})) }},
		{"65 cases", false, func(x *api.Schema) { add(x, unionOf(1, -1, api.Arm{Cases: casesOf(65)})) }},
		{"no arm", false, func(x *api.Schema) { add(x, unionOf(1, -1)) }},
		{"no arm, and the place 0", false, func(x *api.Schema) { add(x, unionOf(1, 0)) }},
		{"an arm without cases alone", false, func(x *api.Schema) { add(x, unionOf(1, 0, api.Arm{})) }},
		{"an arm without cases that no place tells", false, func(x *api.Schema) { add(x, unionOf(1, -1, api.Arm{Cases: []int{1}}, api.Arm{})) }},
		{"an arm without cases ahead", false, func(x *api.Schema) { add(x, unionOf(1, 0, api.Arm{}, api.Arm{Cases: []int{1}})) }},
		{"two arms without cases", false, func(x *api.Schema) { add(x, unionOf(1, 2, api.Arm{Cases: []int{1}}, api.Arm{}, api.Arm{})) }},
		{"two arms without cases, the first one told", false, func(x *api.Schema) { add(x, unionOf(1, 1, api.Arm{Cases: []int{1}}, api.Arm{}, api.Arm{})) }},
		{"the place of an arm with cases", false, func(x *api.Schema) { x.Types[18].Else = 0 }},
		{"the place of no arm", false, func(x *api.Schema) { x.Types[18].Else = 2 }},
		{"no place", false, func(x *api.Schema) { x.Types[18].Else = -1 }},
		{"a place below", false, func(x *api.Schema) { x.Types[18].Else = -2 }},
		{"a far place", false, func(x *api.Schema) { x.Types[18].Else = math.MaxInt }},
		{"a place where all arms have cases", false, func(x *api.Schema) { x.Types[10].Else = 1 }},
		{"a place where there is one arm", false, func(x *api.Schema) { x.Types[19].Else = 0 }},
		{"the arm without cases has one", false, func(x *api.Schema) { x.Types[18].Arms[1].Cases = []int{1} }},
		{"a list of no cases", true, func(x *api.Schema) { x.Types[18].Arms[1].Cases = []int{} }},
		{"a case twice in an arm", false, func(x *api.Schema) { x.Types[17].Arms[0].Cases[1] = 1 }},
		{"a case twice in two arms", false, func(x *api.Schema) { x.Types[17].Arms[1].Cases[0] = 2 }},
		{"a case below an Int's", false, func(x *api.Schema) { x.Types[17].Arms[1].Cases[0] = -1<<31 - 1 }},
		{"the least case of an Int", true, func(x *api.Schema) { x.Types[17].Arms[1].Cases[0] = -1 << 31 }},
		{"the greatest case of an Int", true, func(x *api.Schema) { x.Types[17].Arms[1].Cases[0] = 1<<31 - 1 }},
		{"a case above an Int's", false, func(x *api.Schema) { x.Types[17].Arms[1].Cases[0] = 1 << 31 }},
		{"a case of a Uint below 0", false, func(x *api.Schema) { x.Types[19].Arms[0].Cases[0] = -1 }},
		{"the least case of a Uint", true, func(x *api.Schema) { x.Types[19].Arms[0].Cases[0] = 0 }},
		{"a case above a Uint's", false, func(x *api.Schema) { x.Types[19].Arms[0].Cases[0] = 1 << 32 }},
		{"a Bool's 1", true, func(x *api.Schema) { x.Types[18].Arms[0].Cases[0] = 1 }},
		{"a Bool's 2", false, func(x *api.Schema) { x.Types[18].Arms[0].Cases[0] = 2 }},
		{"a Bool's -1", false, func(x *api.Schema) { x.Types[18].Arms[0].Cases[0] = -1 }},
		{"a case that the enum has not", false, func(x *api.Schema) { x.Types[10].Arms[0].Cases[0] = 2 }},
		{"an arm with a type and no name", false, func(x *api.Schema) { x.Types[17].Arms[0].Name = "" }},
		{"an arm with a name and no type", false, func(x *api.Schema) { x.Types[17].Arms[0].Type = 0 }},
		{"an arm with neither", true, func(x *api.Schema) { x.Types[17].Arms[0].Type = 0; x.Types[17].Arms[0].Name = "" }},
		{"the last arm with a type and no name", false, func(x *api.Schema) { x.Types[17].Arms[2].Name = "" }},
		{"the last arm with a name and no type", false, func(x *api.Schema) { x.Types[18].Arms[1].Name = "b" }},
		{"a name twice", false, func(x *api.Schema) { x.Types[17].Arms[2].Name = "p" }},
		{"a name that is none", false, func(x *api.Schema) { x.Types[17].Arms[0].Name = "union" }},
		{"an arm called TRUE", true, func(x *api.Schema) { x.Types[17].Arms[0].Name = "TRUE" }},
		{"the last arm's name is none", false, func(x *api.Schema) { x.Types[17].Arms[2].Name = "a b" }},
	})
}

// TestRightLoops: types that have themselves within, directly and through others, and where they may.
func TestRightLoops(t *testing.T) {
	checkChanges(t, []change{
		{"a field of itself", false, func(x *api.Schema) { x.Types[8].Fields[0].Type = 8 }},
		{"an array of itself", false, func(x *api.Schema) { add(x, sized(api.Array, 1, 23)) }},
		{"a list of itself", true, func(x *api.Schema) { add(x, sized(api.List, 1, 23)) }},
		{"a maybe of itself", true, func(x *api.Schema) { add(x, sized(api.Maybe, 0, 23)) }},
		{"an arm of itself", false, func(x *api.Schema) { x.Types[17].Arms[0].Type = 17 }},
		{"a later arm of itself", false, func(x *api.Schema) { x.Types[17].Arms[1] = api.Arm{Cases: []int{3}, Name: "a", Type: 17} }},
		{"the last arm of itself", false, func(x *api.Schema) { x.Types[17].Arms[2].Type = 17 }},
		{"a field and an array", false, func(x *api.Schema) { x.Types[8].Fields[1].Type = 14 }},
		{"a field and an arm", false, func(x *api.Schema) { x.Types[8].Fields[1].Type = 10 }},
		{"a field and a list", true, func(x *api.Schema) { x.Types[8].Fields[1].Type = 15 }},
		{"a field and a maybe", true, func(x *api.Schema) { x.Types[8].Fields[1].Type = 16 }},
		{"through three", false, func(x *api.Schema) {
			add(x, sized(api.Array, 1, 24))
			add(x, structOf(api.Field{Name: "a", Type: 25}))
			add(x, unionOf(1, 1, api.Arm{Cases: []int{1}}, api.Arm{Name: "a", Type: 23}))
		}},
		{"through three, one of them a list", true, func(x *api.Schema) {
			add(x, sized(api.List, 1, 24))
			add(x, structOf(api.Field{Name: "a", Type: 25}))
			add(x, unionOf(1, 1, api.Arm{Cases: []int{1}}, api.Arm{Name: "a", Type: 23}))
		}},
		{"the same type twice within, but not itself", true, func(x *api.Schema) {
			add(x, structOf(api.Field{Name: "a", Type: 14}, api.Field{Name: "b", Type: 14}, api.Field{Name: "c", Type: 8}))
		}},
		{"types that stand behind", true, func(x *api.Schema) {
			add(x, sized(api.Array, 2, 24))
			add(x, structOf(api.Field{Name: "a", Type: 25}))
			add(x, sized(api.Fixed, 4, 0))
		}},
	})
}

// TestRightLeastValues: 1000 bytes and a depth of 64, and more.
func TestRightLeastValues(t *testing.T) {
	chain := func(n int, wrap func(place int) api.Type) func(x *api.Schema) {
		return func(x *api.Schema) {
			place := 1
			for range n {
				x.Types = append(x.Types, wrap(place))
				place = len(x.Types) - 1
			}
		}
	}
	asStruct := func(place int) api.Type { return structOf(api.Field{Name: "a", Type: place}) }
	asArray := func(place int) api.Type { return sized(api.Array, 1, place) }
	asArm := func(place int) api.Type {
		return unionOf(1, -1, api.Arm{Cases: []int{1}, Name: "a", Type: place})
	}
	asLater := func(place int) api.Type {
		return unionOf(1, 1, api.Arm{Cases: []int{1}}, api.Arm{Name: "a", Type: place})
	}
	fill := func(n int, of ...api.Field) func(x *api.Schema) {
		return func(x *api.Schema) {
			add(x, sized(api.Fixed, n, 0))
			add(x, structOf(append(of, api.Field{Name: "fill", Type: 23})...))
		}
	}
	checkChanges(t, []change{
		{"63 structs", true, chain(63, asStruct)}, {"64 structs", false, chain(64, asStruct)},
		{"63 arrays", true, chain(63, asArray)}, {"64 arrays", false, chain(64, asArray)},
		{"63 unions", true, chain(63, asArm)}, {"64 unions", false, chain(64, asArm)},
		{"64 unions by their last arms", true, chain(64, asLater)},
		{"1000 bytes beside nothing", true, fill(1000)},
		{"996 and 4", true, fill(996, api.Field{Name: "a", Type: 1})}, {"997 and 4", false, fill(997, api.Field{Name: "a", Type: 1})},
		{"992 and 8", true, fill(992, api.Field{Name: "a", Type: 3})}, {"993 and 8", false, fill(993, api.Field{Name: "a", Type: 3})},
		{"a union's first arm", true, fill(988, api.Field{Name: "a", Type: 17})}, {"a union's first arm, and more", false, fill(989, api.Field{Name: "a", Type: 17})},
		{"a list, a maybe, an opaque, a string", true, fill(984, api.Field{Name: "a", Type: 15}, api.Field{Name: "b", Type: 16}, api.Field{Name: "c", Type: 12}, api.Field{Name: "d", Type: 13})},
		{"a list, a maybe, an opaque, a string, and more", false, fill(985, api.Field{Name: "a", Type: 15}, api.Field{Name: "b", Type: 16}, api.Field{Name: "c", Type: 12}, api.Field{Name: "d", Type: 13})},
	})
}

func TestRightNames(t *testing.T) {
	changes := []change{
		{"no names", false, func(x *api.Schema) { x.Names = nil }},
		{"a name twice", false, func(x *api.Schema) { x.Names = append(x.Names, typed("point", 8)) }},
		{"a name twice, a type and a constant", false, func(x *api.Schema) { addConstant(x, "point", 8) }},
		{"two names of a type", true, func(x *api.Schema) { x.Names = append(x.Names, typed("Point", 8)) }},
		{"names in another order", true, func(x *api.Schema) { x.Names[0], x.Names[5] = x.Names[5], x.Names[0] }},
		{"a type called TRUE", false, func(x *api.Schema) { x.Names[0].Name = "TRUE" }},
		{"a constant called FALSE", false, func(x *api.Schema) { addConstant(x, "FALSE", 0) }},
		{"a constant called TRUE", false, func(x *api.Schema) { addConstant(x, "TRUE", 1) }},
	}
	for _, n := range []int{math.MinInt, -1<<31 - 1, -1 << 31, -1, 0, 1<<32 - 1, 1 << 32, math.MaxInt} {
		changes = append(changes, change{"a constant " + strconv.Itoa(n), n >= -1<<31 && n <= 1<<32-1, func(x *api.Schema) { addConstant(x, "K", n) }})
	}
	for _, name := range []string{"", "int", "_a", "a b", "1a", "a-b", "é", strings.Repeat("n", 33), "a\x00"} {
		changes = append(changes,
			change{"the type " + name, false, func(x *api.Schema) { x.Names[0].Name = name }},
			change{"the constant " + name, false, func(x *api.Schema) { addConstant(x, name, 1) }},
			change{"the program " + name, false, func(x *api.Schema) { x.Programs[1].Name = name }},
			change{"the version " + name, false, func(x *api.Schema) { x.Programs[0].Versions[1].Name = name }},
			change{"the procedure " + name, false, func(x *api.Schema) { x.Programs[0].Versions[0].Procs[1].Name = name }})
	}
	changes = append(changes, change{"a name of 32 bytes", true, func(x *api.Schema) { x.Names[0].Name = strings.Repeat("n", 32) }})
	checkChanges(t, changes)
}

func TestRightPrograms(t *testing.T) {
	checkChanges(t, []change{
		{"no programs", true, func(x *api.Schema) { x.Programs = nil }},
		{"a program's name twice", false, func(x *api.Schema) { x.Programs[1].Name = "P" }},
		{"a program called as a type", false, func(x *api.Schema) { x.Programs[1].Name = "point" }},
		{"a program called as a constant", false, func(x *api.Schema) { x.Programs[1].Name = "C" }},
		{"a program called as a member", false, func(x *api.Schema) { x.Programs[1].Name = "A" }},
		{"a program called TRUE", false, func(x *api.Schema) { x.Programs[1].Name = "TRUE" }},
		{"a program called FALSE", false, func(x *api.Schema) { x.Programs[0].Name = "FALSE" }},
		{"a program called as a version", true, func(x *api.Schema) { x.Programs[1].Name = "V" }},
		{"a program's number twice", false, func(x *api.Schema) { x.Programs[1].Number = 7 }},
		{"a program's number 0", true, func(x *api.Schema) { x.Programs[1].Number = 0 }},
		{"a program's number -1", false, func(x *api.Schema) { x.Programs[1].Number = -1 }},
		{"a program's number 2^32 - 1", true, func(x *api.Schema) { x.Programs[1].Number = 1<<32 - 1 }},
		{"a program's number 2^32", false, func(x *api.Schema) { x.Programs[1].Number = 1 << 32 }},
		{"no version", false, func(x *api.Schema) { x.Programs[1].Versions = nil }},
		{"64 versions", true, func(x *api.Schema) { x.Programs[1].Versions = versionsOf(64) }},
		{"65 versions", false, func(x *api.Schema) { x.Programs[1].Versions = versionsOf(65) }},
		{"a version's name twice", false, func(x *api.Schema) { x.Programs[0].Versions[1].Name = "V" }},
		{"a version called TRUE", true, func(x *api.Schema) { x.Programs[0].Versions[1].Name = "TRUE" }},
		{"a version's number twice", false, func(x *api.Schema) { x.Programs[0].Versions[1].Number = 2 }},
		{"a version's number -1", false, func(x *api.Schema) { x.Programs[0].Versions[1].Number = -1 }},
		{"a version's number 2^32 - 1", true, func(x *api.Schema) { x.Programs[0].Versions[1].Number = 1<<32 - 1 }},
		{"a version's number 2^32", false, func(x *api.Schema) { x.Programs[0].Versions[1].Number = 1 << 32 }},
		{"no procedure", false, func(x *api.Schema) { x.Programs[0].Versions[1].Procs = nil }},
		{"64 procedures", true, func(x *api.Schema) { x.Programs[0].Versions[1].Procs = procsOf(64) }},
		{"65 procedures", false, func(x *api.Schema) { x.Programs[0].Versions[1].Procs = procsOf(65) }},
		{"a procedure's name twice", false, func(x *api.Schema) { x.Programs[0].Versions[0].Procs[1].Name = "N" }},
		{"a procedure called FALSE", true, func(x *api.Schema) { x.Programs[0].Versions[0].Procs[1].Name = "FALSE" }},
		{"a procedure's number twice", false, func(x *api.Schema) { x.Programs[0].Versions[0].Procs[0].Number = 1 }},
		{"a procedure's number -1", false, func(x *api.Schema) { x.Programs[0].Versions[0].Procs[1].Number = -1 }},
		{"a procedure's number 2^32 - 1", true, func(x *api.Schema) { x.Programs[0].Versions[0].Procs[1].Number = 1<<32 - 1 }},
		{"a procedure's number 2^32", false, func(x *api.Schema) { x.Programs[0].Versions[0].Procs[1].Number = 1 << 32 }},
		{"five arguments", false, func(x *api.Schema) { x.Programs[0].Versions[0].Procs[1].Args = []int{1, 1, 1, 1, 1} }},
		{"four arguments", true, func(x *api.Schema) { x.Programs[0].Versions[0].Procs[1].Args = []int{1, 1, 1, 1} }},
		{"an argument of nothing", false, func(x *api.Schema) { x.Programs[0].Versions[0].Procs[1].Args = []int{1, 0} }},
		{"the procedure 0 with an argument", false, func(x *api.Schema) { x.Programs[0].Versions[0].Procs[0].Args = []int{1} }},
		{"the procedure 0 with a result", false, func(x *api.Schema) { x.Programs[0].Versions[0].Procs[0].Result = 1 }},
		{"the procedure 0 with a list of no arguments", true, func(x *api.Schema) { x.Programs[0].Versions[0].Procs[0].Args = []int{} }},
		{"another one without either", true, func(x *api.Schema) { x.Programs[0].Versions[1].Procs[0].Result = 0 }},
	})
}

// TestFind is C4 of names, of any schema.
func TestFind(t *testing.T) {
	x := api.Schema{Names: []api.Named{constant("a", 1), typed("b", 2), typed("a", 3), typed("a", 4), constant("b", 5), typed("", -6), typed("TRUE", math.MinInt), constant("c", 7)}}
	for name, want := range map[string]int{"a": 3, "b": 2, "": -6, "TRUE": math.MinInt} {
		if n, is := schema.Find(x, name); n != want || !is {
			t.Errorf("%q: %d, %t", name, n, is)
		}
	}
	for _, name := range []string{"c", "FALSE", "A", "a ", "int", "aa"} {
		if n, is := schema.Find(x, name); n != 0 || is {
			t.Errorf("%q: %d, %t", name, n, is)
		}
	}
	if n, is := schema.Find(api.Schema{}, ""); n != 0 || is {
		t.Errorf("of nothing: %d, %t", n, is)
	}
	y := good(t)
	for name, want := range map[string]int{"point": 8, "e": 9, "u": 10, "n": 20} {
		if n, is := schema.Find(y, name); n != want || !is {
			t.Errorf("%q: %d, %t", name, n, is)
		}
	}
	for _, name := range []string{"A", "C", "P", "V", "N", "x", "TRUE"} {
		if n, is := schema.Find(y, name); n != 0 || is {
			t.Errorf("%q: %d, %t", name, n, is)
		}
	}
}

// TestProc is C4 of procedures, of any schema: the first of each number, and no way back.
func TestProc(t *testing.T) {
	x := api.Schema{Programs: []api.Program{
		{Name: "A", Number: 1, Versions: []api.Version{
			{Name: "V", Number: 1, Procs: []api.Proc{{Name: "a", Number: 1, Args: []int{5, -6}, Result: 9}, {Name: "b", Number: 1}, {Name: "c", Number: -2}}},
			{Name: "W", Number: 1, Procs: []api.Proc{{Name: "d", Number: 3}}},
			{Name: "X", Number: 2, Procs: []api.Proc{{Name: "e", Number: 4, Result: math.MinInt}}},
		}},
		{Name: "B", Number: 1, Versions: []api.Version{{Name: "V", Number: 3, Procs: []api.Proc{{Name: "f", Number: 1}}}}},
		{Name: "C", Number: -1, Versions: []api.Version{{Name: "V", Number: math.MaxInt, Procs: []api.Proc{{Number: 0, Args: []int{}}}}}},
		{Name: "D", Number: 5},
		{Name: "E", Number: 5, Versions: []api.Version{{Name: "V", Number: 1, Procs: []api.Proc{{Name: "g", Number: 1}}}}},
	}}
	for k, want := range map[[3]int]string{{1, 1, 1}: "a", {1, 1, -2}: "c", {1, 2, 4}: "e", {-1, math.MaxInt, 0}: ""} {
		if p, is := schema.Proc(x, k[0], k[1], k[2]); !is || p.Name != want || p.Number != k[2] {
			t.Errorf("%v: %v, %t", k, p, is)
		}
	}
	if p, is := schema.Proc(x, 1, 1, 1); !is || !reflect.DeepEqual(p, api.Proc{Name: "a", Number: 1, Args: []int{5, -6}, Result: 9}) {
		t.Errorf("a: %v, %t", p, is)
	}
	for _, k := range [][3]int{{1, 1, 3}, {1, 3, 1}, {1, 2, 1}, {5, 1, 1}, {0, 0, 0}, {2, 1, 1}, {-1, 0, 0}, {1, 1, 0}} {
		if p, is := schema.Proc(x, k[0], k[1], k[2]); is || !reflect.DeepEqual(p, api.Proc{}) {
			t.Errorf("%v: %v, %t", k, p, is)
		}
	}
	if p, is := schema.Proc(api.Schema{}, 0, 0, 0); is || !reflect.DeepEqual(p, api.Proc{}) {
		t.Errorf("of nothing: %v, %t", p, is)
	}
}

package schema_test

import (
	"math"
	"math/rand"
	"reflect"
	"slices"
	"strings"
	"testing"

	"callbox/api"
	"callbox/schema"
	"callbox/syntax"
)

// answer is what a call tells.
type answer struct {
	x  api.Schema
	e  api.Errno
	at int
}

func compile(s string) answer {
	x, e, at := schema.Compile(s)
	return answer{x, e, at}
}

func resolve(t api.Tree) answer {
	x, e, at := schema.Resolve(t)
	return answer{x, e, at}
}

func modelCompile(s string) answer {
	t, e, at := syntax.Parse(s)
	if e != api.OK {
		return answer{api.Schema{}, e, at}
	}
	x, e, at := modelResolve(t)
	return answer{x, e, at}
}

func (a answer) same(b answer) bool { return a.e == b.e && a.at == b.at && same(a.x, b.x) }

// check holds a source against the model, and against what C5 says of one answer.
func check(t *testing.T, s string) answer {
	t.Helper()
	got, want := compile(s), modelCompile(s)
	if !got.same(want) {
		t.Fatalf("%s: %v, not %v", s, got, want)
	}
	if got.e != api.OK && !same(got.x, api.Schema{}) {
		t.Fatalf("%s: a schema beside %d", s, got.e)
	}
	if got.e == api.OK && (got.at != 0 || !schema.Right(got.x) || len(broken(got.x)) > 0) {
		t.Fatalf("%s: not right: %v, %v", s, got.x, broken(got.x))
	}
	return got
}

// schemaErrors are all that the layer tells.
var schemaErrors = []api.Errno{api.ErrSchemaTwice, api.ErrSchemaNone, api.ErrSchemaKind, api.ErrSchemaRange, api.ErrSchemaCase, api.ErrSchemaLoop, api.ErrSchemaNumber, api.ErrSchemaVoid}

// TestMadeSources is C1, C2 and C5 of sources that are right, or nearly.
func TestMadeSources(t *testing.T) {
	r := rand.New(rand.NewSource(5))
	came := map[api.Errno]int{}
	kinds := map[int]int{}
	for range 30000 {
		slip := []int{0, 200, 80, 30, 10}[r.Intn(5)]
		got := check(t, strings.Join(newMaker(r, slip).source(), " "))
		came[got.e]++
		for _, y := range got.x.Types {
			kinds[y.Kind]++
		}
	}
	if came[api.OK] < 5000 {
		t.Errorf("right: %d", came[api.OK])
	}
	for _, e := range schemaErrors {
		if came[e] < 100 {
			t.Errorf("the error %d came %d times", e, came[e])
		}
	}
	for kind := range 17 {
		if kinds[kind] < 1000 {
			t.Errorf("the kind %d came %d times", kind, kinds[kind])
		}
	}
}

// TestFirstDefinitions is C5: what the first ones say stands in front; where they are refused, all are, so and there.
func TestFirstDefinitions(t *testing.T) {
	r := rand.New(rand.NewSource(6))
	for range 4000 {
		defs := newMaker(r, []int{0, 100, 30}[r.Intn(3)]).source()
		all := compile(strings.Join(defs, " "))
		refused := false
		for n := range len(defs) + 1 {
			first := compile(strings.Join(defs[:n], " "))
			if first.e != api.OK {
				refused = true
				if !first.same(all) {
					t.Fatalf("%d of %v: %v, all: %v", n, defs, first, all)
				}
				continue
			}
			if refused {
				t.Fatalf("%d of %v are right, fewer were not", n, defs)
			}
			if all.e == api.OK && !front(first.x, all.x) {
				t.Fatalf("%d of %v: %v, all: %v", n, defs, first.x, all.x)
			}
		}
	}
}

func front(a, b api.Schema) bool {
	if len(a.Types) > len(b.Types) || len(a.Names) > len(b.Names) || len(a.Programs) > len(b.Programs) {
		return false
	}
	b = api.Schema{Types: b.Types[:len(a.Types)], Names: b.Names[:len(a.Names)], Programs: b.Programs[:len(a.Programs)]}
	return same(a, b)
}

// scatter lays other places in all nodes.
func scatter(x api.Tree, next func() int) api.Tree {
	x.At = next()
	x.Kids = slices.Clone(x.Kids)
	for i := range x.Kids {
		x.Kids[i] = scatter(x.Kids[i], next)
	}
	return x
}

// TestSameTrees is C5: trees that are the same say the same schema, or the same error, whatever their places are.
func TestSameTrees(t *testing.T) {
	r := rand.New(rand.NewSource(7))
	for range 5000 {
		s := strings.Join(newMaker(r, []int{0, 60, 15}[r.Intn(3)]).source(), " ")
		x, e, _ := syntax.Parse(s)
		if e != api.OK {
			continue
		}
		count := 100
		y := scatter(x, func() int { count++; return count })
		z := scatter(x, func() int { return []int{0, -1, math.MinInt, math.MaxInt}[r.Intn(4)] })
		if !syntax.Same(x, y) || !syntax.Same(x, z) {
			t.Fatal("not the same trees")
		}
		a, b, c := resolve(x), resolve(y), resolve(z)
		if a.e != b.e || a.e != c.e || !same(a.x, b.x) || !same(a.x, c.x) {
			t.Fatalf("%s: %v, %v, %v", s, a, b, c)
		}
		// Where each node has a place of its own, it is told which one it was.
		yx, ye, yat := modelResolve(y)
		if !b.same(answer{yx, ye, yat}) || ye != api.OK && yat <= 100 {
			t.Fatalf("%s: %v, not %v, %d, %d", s, b, yx, ye, yat)
		}
		// The shortest source says the same.
		text, _ := syntax.Print(x)
		if d := compile(text); d.e != a.e || !same(d.x, a.x) {
			t.Fatalf("%s: %v; %s: %v", s, a, text, d)
		}
	}
}

// nodes are all nodes of a tree.
func nodes(x *api.Tree) []*api.Tree {
	all := []*api.Tree{x}
	for i := range x.Kids {
		all = append(all, nodes(&x.Kids[i])...)
	}
	return all
}

// spoil changes a tree in one place.
func spoil(x *api.Tree, r *rand.Rand) {
	all := nodes(x)
	a, b := all[r.Intn(len(all))], all[r.Intn(len(all))]
	switch r.Intn(16) {
	case 0, 1, 2:
		if a.Name != "" && b.Name != "" {
			a.Name = b.Name
		}
	case 3:
		if a.Name != "" {
			a.Name = []string{"TRUE", "FALSE", "nobody", "int", "a1", "B2", "l0", "d"}[r.Intn(8)]
		}
	case 4, 5:
		if a.Kind == api.NodeNumber {
			a.Number = []int{0, 1, 2, 3, -1, 1000, 1001, 251, 1 << 31, 1<<31 - 1, -1 << 31, 1<<32 - 1, 1 << 32}[r.Intn(13)]
		}
	case 6:
		if a.Kind >= api.NodeInt && a.Kind <= api.NodeBool {
			a.Kind = api.NodeInt + r.Intn(7)
		}
	case 7:
		if a.Kind >= api.NodePlain && a.Kind <= api.NodeMaybe {
			a.Kind = api.NodePlain + r.Intn(4)
			if a.Kind == api.NodeFixed && len(a.Kids) == 1 {
				a.Kids = append(slices.Clone(a.Kids), api.Tree{Kind: api.NodeNumber, Number: r.Intn(4), At: -5})
			}
			if (a.Kind == api.NodePlain || a.Kind == api.NodeMaybe) && len(a.Kids) == 2 {
				a.Kids = a.Kids[:1]
			}
		}
	case 8:
		if len(a.Kids) > 1 {
			i, k := r.Intn(len(a.Kids)), r.Intn(len(a.Kids))
			a.Kids[i], a.Kids[k] = a.Kids[k], a.Kids[i]
		}
	case 9:
		if len(a.Kids) > 1 {
			a.Kids = slices.Delete(slices.Clone(a.Kids), 0, 1)
		}
	case 10:
		if len(a.Kids) > 0 {
			a.Kids = append(slices.Clone(a.Kids), a.Kids[r.Intn(len(a.Kids))])
		}
	case 11:
		if a.Kind == b.Kind {
			*a = scatter(*b, func() int { return r.Intn(1000) })
		}
	default:
		spoilDefinition(x, r)
	}
}

// spoilDefinition lets a definition name itself, a struct have nothing, or a procedure have another number.
func spoilDefinition(x *api.Tree, r *rand.Rand) {
	if len(x.Kids) == 0 {
		return
	}
	d := &x.Kids[r.Intn(len(x.Kids))]
	for _, a := range nodes(d) {
		bareType := a.Kind >= api.NodeInt && a.Kind <= api.NodeBool
		switch {
		case r.Intn(4) > 0:
		case bareType && d.Name != "":
			*a = api.Tree{Kind: api.NodeRef, Name: d.Name, At: a.At}
			return
		case a.Kind == api.NodeStruct:
			a.Kids[r.Intn(len(a.Kids))] = api.Tree{Kind: api.NodeVoid, At: -3}
			return
		case a.Kind == api.NodeProc, a.Kind == api.NodeVersion, a.Kind == api.NodeProgram:
			a.Kids[0].Number = r.Intn(3)
			return
		}
	}
}

// TestSpoiltTrees is C2 of trees that were right.
func TestSpoiltTrees(t *testing.T) {
	r := rand.New(rand.NewSource(8))
	came := map[api.Errno]int{}
	for range 3000 {
		x, e, _ := syntax.Parse(strings.Join(newMaker(r, 0).source(), " "))
		if e != api.OK {
			t.Fatal(e)
		}
		for range 8 {
			y := scatter(x, func() int { return r.Intn(1 << 40) })
			for range 1 + r.Intn(2) {
				spoil(&y, r)
			}
			got := resolve(y)
			mx, me, mat := modelResolve(y)
			if !got.same(answer{mx, me, mat}) {
				text, _ := syntax.Print(y)
				t.Fatalf("%s: %v, not %v, %d, %d", text, got, mx, me, mat)
			}
			if got.e == api.OK && !schema.Right(got.x) {
				t.Fatalf("not right: %v", got.x)
			}
			came[got.e]++
		}
	}
	for _, e := range append(schemaErrors, api.OK, api.ErrSyntaxTree) {
		if came[e] < 100 {
			t.Errorf("%d came %d times", e, came[e])
		}
	}
}

// somewhere is a number that is nearly right.
func somewhere(r *rand.Rand, types int) int {
	return []int{0, 1, 2, 3, 7, 8, 9, types - 1, types, r.Intn(types + 1), r.Intn(types + 1), r.Intn(types + 1), -1, 1000, 1001, 1<<31 - 1, 1 << 31, -1 << 31, -1<<31 - 1, 1<<32 - 1, 1 << 32}[r.Intn(21)]
}

func anyNameOf(x api.Schema, r *rand.Rand) string {
	all := []string{"", "int", "TRUE", "FALSE", "l0", "l1", "a1", "B2", "_"}
	for _, n := range x.Names {
		all = append(all, n.Name)
	}
	for _, p := range x.Programs {
		all = append(all, p.Name)
	}
	return all[r.Intn(len(all))]
}

// resize takes an element out of a list, doubles one, or makes many of it.
func resize[T any](list []T, r *rand.Rand) []T {
	if len(list) == 0 {
		return list
	}
	i := r.Intn(len(list))
	switch r.Intn(4) {
	case 0:
		return slices.Delete(slices.Clone(list), i, i+1)
	case 1:
		return append(slices.Clone(list), list[i])
	case 2:
		return slices.Repeat(list, 64)
	}
	list = slices.Clone(list)
	k := r.Intn(len(list))
	list[i], list[k] = list[k], list[i]
	return list
}

// spoilType changes a type in one place.
func spoilType(x api.Schema, y *api.Type, r *rand.Rand) {
	n := somewhere(r, len(x.Types))
	switch r.Intn(9) {
	case 0:
		y.Kind = []int{y.Kind, r.Intn(18)}[r.Intn(2)]
	case 1:
		y.Size = n
	case 2:
		y.Of = n
	case 3:
		y.Else = []int{-1, 0, 1, 2, -2}[r.Intn(5)]
	case 4:
		y.Members, y.Fields, y.Arms = resize(y.Members, r), resize(y.Fields, r), resize(y.Arms, r)
	case 5:
		for i := range y.Members {
			if r.Intn(2) == 0 {
				y.Members[i].Number = n
			} else {
				y.Members[i].Name = anyNameOf(x, r)
			}
		}
	case 6:
		if len(y.Fields) > 0 {
			f := &y.Fields[r.Intn(len(y.Fields))]
			if r.Intn(2) == 0 {
				f.Type = n
			} else {
				f.Name = anyNameOf(x, r)
			}
		}
	case 7, 8:
		if len(y.Arms) > 0 {
			spoilArm(x, &y.Arms[r.Intn(len(y.Arms))], n, r)
		}
	}
}

func spoilArm(x api.Schema, a *api.Arm, n int, r *rand.Rand) {
	switch r.Intn(5) {
	case 0:
		a.Type = n
	case 1:
		a.Name = anyNameOf(x, r)
	case 2:
		a.Cases = resize(a.Cases, r)
	case 3:
		if len(a.Cases) > 0 {
			a.Cases[r.Intn(len(a.Cases))] = n
		}
	case 4:
		a.Cases = append(a.Cases, n)
	}
}

func spoilName(x *api.Schema, r *rand.Rand) {
	if len(x.Names) == 0 {
		return
	}
	n := &x.Names[r.Intn(len(x.Names))]
	switch r.Intn(4) {
	case 0:
		n.Name = anyNameOf(*x, r)
	case 1:
		n.Const = !n.Const
	case 2:
		n.Value = somewhere(r, len(x.Types))
	case 3:
		x.Names = resize(x.Names, r)
	}
}

func spoilProgram(x *api.Schema, r *rand.Rand) {
	if len(x.Programs) == 0 {
		return
	}
	n := somewhere(r, len(x.Types))
	p := &x.Programs[r.Intn(len(x.Programs))]
	v := &p.Versions[r.Intn(len(p.Versions))]
	c := &v.Procs[r.Intn(len(v.Procs))]
	switch r.Intn(12) {
	case 0:
		p.Name = anyNameOf(*x, r)
	case 1:
		p.Number = n
	case 2:
		p.Versions = resize(p.Versions, r)
	case 3:
		v.Name = anyNameOf(*x, r)
	case 4:
		v.Number = n
	case 5:
		v.Procs = resize(v.Procs, r)
	case 6:
		c.Name = anyNameOf(*x, r)
	case 7:
		c.Number = n
	case 8:
		c.Result = n
	case 9:
		c.Args = append(c.Args, n)
	case 10:
		c.Args = resize(c.Args, r)
	case 11:
		x.Programs = resize(x.Programs, r)
	}
}

func spoilSchema(x *api.Schema, r *rand.Rand) {
	switch k := r.Intn(10); {
	case k < 5 && len(x.Types) > 8:
		place := 8 + r.Intn(len(x.Types)-8)
		spoilType(*x, &x.Types[place], r)
	case k == 5:
		spoilType(*x, &x.Types[r.Intn(8)], r)
	case k == 6:
		x.Types = resize(x.Types, r)
	case k == 7:
		spoilName(x, r)
	default:
		spoilProgram(x, r)
	}
}

// TestSpoiltSchemas is C3: Right of schemas that were right, against the clauses. Nearly each clause comes to be the only one that is broken.
func TestSpoiltSchemas(t *testing.T) {
	r := rand.New(rand.NewSource(9))
	alone := map[string]int{}
	right := 0
	for range 8000 {
		x, e, at := schema.Compile(strings.Join(newMaker(r, 0).source(), " "))
		if e != api.OK {
			if e != api.ErrSchemaRange {
				t.Fatalf("%d, %d", e, at)
			}
			continue
		}
		for range 12 {
			y := copied(x)
			for range 1 + r.Intn(2) {
				if len(y.Types) < 9 || len(y.Types) > 400 || slices.ContainsFunc(y.Programs, hollow) {
					break
				}
				spoilSchema(&y, r)
			}
			wrong := broken(y)
			if got := schema.Right(y); got != (len(wrong) == 0) {
				t.Fatalf("%v: %t, %v", y, got, wrong)
			}
			if len(wrong) == 0 {
				right++
			}
			if len(wrong) == 1 {
				for clause := range wrong {
					alone[clause]++
				}
			}
		}
	}
	if right < 2000 {
		t.Errorf("%d are right", right)
	}
	for _, clause := range []string{
		"the first types", "kinds", "zero", "Of is a place", "a field's place", "an arm's place", "how many members", "members stand", "sizes", "how many fields", "fields' names", "fields unlike",
		"discriminants", "how many arms", "else", "arms without names", "arms' names", "arms unlike", "cases unlike", "cases are numbers", "within itself", "least values",
		"names' names", "TRUE and FALSE", "constants", "names' places", "names unlike", "programs' names", "programs TRUE and FALSE", "programs unlike Names", "how many versions", "programs' numbers",
		"versions' names", "versions' numbers", "versions unlike", "versions' numbers unlike", "programs unlike", "programs' numbers unlike", "how many procedures", "procedures' names", "procedures' numbers",
		"how many arguments", "arguments' places", "results' places", "the procedure 0", "procedures unlike", "procedures' numbers unlike",
	} {
		if alone[clause] < 3 {
			t.Errorf("%s: broken alone %d times", clause, alone[clause])
		}
	}
}

// hollow: has a program, or a version of it, nothing within?
func hollow(p api.Program) bool {
	return len(p.Versions) == 0 || slices.ContainsFunc(p.Versions, func(v api.Version) bool { return len(v.Procs) == 0 })
}

// TestFindAndProcOfMade is C4 against a search from the front.
func TestFindAndProcOfMade(t *testing.T) {
	r := rand.New(rand.NewSource(10))
	for range 2000 {
		x := compile(strings.Join(newMaker(r, 0).source(), " ")).x
		for range 3 {
			if len(x.Types) > 8 && !slices.ContainsFunc(x.Programs, hollow) {
				spoilSchema(&x, r)
			}
		}
		for range 10 {
			name := anyNameOf(x, r)
			want, wantIs := 0, false
			for _, n := range slices.Backward(x.Names) {
				if n.Name == name && !n.Const {
					want, wantIs = n.Value, true
				}
			}
			if got, is := schema.Find(x, name); got != want || is != wantIs {
				t.Fatalf("%v: %q: %d, %t", x.Names, name, got, is)
			}
			k := [3]int{r.Intn(4), r.Intn(4), r.Intn(4)}
			p, is := schema.Proc(x, k[0], k[1], k[2])
			q, wantIs := modelProc(x, k)
			if is != wantIs || !reflect.DeepEqual(bareProc(p), bareProc(q)) {
				t.Fatalf("%v: %v: %v, %t", x.Programs, k, p, is)
			}
		}
	}
}

func bareProc(p api.Proc) api.Proc {
	p.Args = bare(p.Args)
	return p
}

func modelProc(x api.Schema, k [3]int) (api.Proc, bool) {
	p := slices.IndexFunc(x.Programs, func(p api.Program) bool { return p.Number == k[0] })
	if p < 0 {
		return api.Proc{}, false
	}
	v := slices.IndexFunc(x.Programs[p].Versions, func(v api.Version) bool { return v.Number == k[1] })
	if v < 0 {
		return api.Proc{}, false
	}
	c := slices.IndexFunc(x.Programs[p].Versions[v].Procs, func(c api.Proc) bool { return c.Number == k[2] })
	if c < 0 {
		return api.Proc{}, false
	}
	return x.Programs[p].Versions[v].Procs[c], true
}

// FuzzCompile looks for sources that are gone through wrongly.
func FuzzCompile(f *testing.F) {
	f.Add(goodSource)
	f.Add(known)
	r := rand.New(rand.NewSource(11))
	for range 50 {
		f.Add(strings.Join(newMaker(r, 20).source(), " "))
	}
	f.Fuzz(func(t *testing.T, s string) { check(t, s) })
}

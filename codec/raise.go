package codec

import (
	"slices"
	"strconv"

	"callbox/api"
)

// raiser makes of a code the schema that it would be the code of. What is wrong with the code comes to light behind that: the schema may not be, or its code is another one. Here is refused only what would be too much work.
type raiser struct {
	entries []int
	left    []api.Op // behind those of the types that are made
	x       api.Schema
}

func raise(c api.Code) (api.Schema, bool) {
	if len(c.Entries) > api.MaxTypes {
		return api.Schema{}, false
	}
	r := &raiser{entries: c.Entries, left: c.Ops}
	for range c.Entries {
		if !r.next() {
			return api.Schema{}, false
		}
	}
	return r.x, true
}

// next makes the next type.
func (r *raiser) next() bool {
	if len(r.left) == 0 || r.tooMuch(r.left[0]) {
		return false
	}
	op, parts := r.left[0], 0
	t := api.Type{Kind: kindOf(op.Code)}
	switch op.Code {
	case api.OpEnum:
		t.Members = r.members(op.T)
	case api.OpFixed, api.OpOpaque, api.OpString:
		t.Size = op.A
	case api.OpArray, api.OpList:
		t.Size, t.Of = op.A, r.placeOf(op.B)
	case api.OpMaybe:
		t.Of = r.placeOf(op.B)
	case api.OpStruct:
		parts = op.A
		t.Fields = r.fields(r.left[1 : 1+parts])
	case api.OpUnion:
		t = r.union(op)
	}
	r.x.Types = append(r.x.Types, t)
	r.left = r.left[min(parts+2, len(r.left)):]
	return true
}

// tooMuch: has the operation that is next more parts than any type, or than there are?
func (r *raiser) tooMuch(op api.Op) bool {
	switch op.Code {
	case api.OpEnum:
		return len(op.T) > api.MaxParts
	case api.OpStruct:
		return op.A < 0 || op.A > api.MaxParts || op.A >= len(r.left)
	case api.OpUnion:
		return len(op.T) > 2*api.MaxParts*api.MaxParts
	}
	return false
}

// placeOf is the place of the type that has an entry, -1 if none has. (If the entries do not rise, the schema's code has others.)
func (r *raiser) placeOf(entry int) int {
	place, found := slices.BinarySearch(r.entries, entry)
	if !found {
		return -1
	}
	return place
}

// nameOf is a name of its own for each number: a code has none, but a schema must.
func nameOf(nth int) string { return "n" + strconv.Itoa(nth) }

func (r *raiser) members(numbers []int) []api.Member {
	var members []api.Member
	for _, n := range numbers {
		name := nameOf(len(r.x.Names))
		r.x.Names = append(r.x.Names, api.Named{Name: name, Const: true, Value: n})
		members = append(members, api.Member{Name: name, Number: n})
	}
	return members
}

func (r *raiser) fields(ops []api.Op) []api.Field {
	var fields []api.Field
	for i, op := range ops {
		place := kindOf(op.Code)
		if op.Code == api.OpCall {
			place = r.placeOf(op.B)
		}
		fields = append(fields, api.Field{Name: nameOf(i), Type: place})
	}
	return fields
}

func (r *raiser) union(op api.Op) api.Type {
	t := api.Type{Kind: api.Union, Of: r.placeOf(op.B), Arms: r.arms(op.T), Else: noElse}
	if op.A != noElse {
		t.Else = len(t.Arms)
		t.Arms = append(t.Arms, newArm(t.Else, r.placeOf(op.A)))
	}
	return t
}

// arms are as few as cases and entries in turns can be of.
func (r *raiser) arms(turns []int) []api.Arm {
	var arms []api.Arm
	for len(turns) >= 2 {
		n, place := turns[0], r.placeOf(turns[1])
		turns = turns[2:]
		last := len(arms) - 1
		if last < 0 || arms[last].Type != place || len(arms[last].Cases) == api.MaxParts {
			arms = append(arms, newArm(len(arms), place))
			last++
		}
		arms[last].Cases = append(arms[last].Cases, n)
	}
	return arms
}

// newArm is the arm at nth among those of its union, without cases yet; one of nothing has no name.
func newArm(nth, place int) api.Arm {
	if place == api.Void {
		return api.Arm{}
	}
	return api.Arm{Name: nameOf(nth), Type: place}
}

package schema

import (
	"callbox/api"
	"callbox/lex"
)

// judge holds a schema against what one has to be. Each of its questions may lean on those that are asked ahead of it.
type judge struct {
	types []api.Type
	names *space
}

// isPlace: is n a place of a type, from some place on?
func (j *judge) isPlace(n, from int) bool { return from <= n && n < len(j.types) }

// unlike: is no element of a list there twice?
func unlike[K comparable](list []K) bool {
	seen := make(map[K]int)
	for i, k := range list {
		if _, twice := seen[k]; twice {
			return false
		}
		seen[k] = i
	}
	return true
}

func areNames(list []string) bool {
	for _, name := range list {
		if !lex.IsName(name) {
			return false
		}
	}
	return unlike(list)
}

func areWords(list []int) bool {
	for _, n := range list {
		if !isWord(n) {
			return false
		}
	}
	return unlike(list)
}

// alike: do types have the same numbers, and lists of the same lengths?
func alike(a, b api.Type) bool {
	return a.Kind == b.Kind && a.Size == b.Size && a.Of == b.Of && a.Else == b.Else &&
		len(a.Members) == len(b.Members) && len(a.Fields) == len(b.Fields) && len(a.Arms) == len(b.Arms)
}

// firstTypes: are there so many types as may be, and the first ones those that are always there?
func (j *judge) firstTypes() bool {
	if len(j.types) <= api.Bool || len(j.types) > api.MaxTypes {
		return false
	}
	for kind := api.Void; kind <= api.Bool; kind++ {
		if !alike(j.types[kind], api.Type{Kind: kind}) {
			return false
		}
	}
	return true
}

func (j *judge) listedNames(list []api.Named) bool {
	for _, n := range list {
		kind, right := aType, j.isPlace(n.Value, 1)
		if n.Const {
			kind, right = aConstant, isInt(n.Value) || isWord(n.Value)
		}
		if !right || !lex.IsName(n.Name) || !j.names.take(n.Name, kind, n.Value) {
			return false
		}
	}
	return true
}

func (j *judge) programs(list []api.Program) bool {
	var numbers []int
	for _, p := range list {
		if !lex.IsName(p.Name) || !j.names.take(p.Name, aProgram, 0) || !j.versions(p.Versions) {
			return false
		}
		numbers = append(numbers, p.Number)
	}
	return areWords(numbers)
}

func (j *judge) versions(list []api.Version) bool {
	if !isCount(len(list)) {
		return false
	}
	var names []string
	var numbers []int
	for _, v := range list {
		if !j.procedures(v.Procs) {
			return false
		}
		names, numbers = append(names, v.Name), append(numbers, v.Number)
	}
	return areNames(names) && areWords(numbers)
}

func (j *judge) procedures(list []api.Proc) bool {
	if !isCount(len(list)) {
		return false
	}
	var names []string
	var numbers []int
	for _, p := range list {
		if !rightNull(p) || !j.isPlace(p.Result, 0) || !j.arguments(p.Args) {
			return false
		}
		names, numbers = append(names, p.Name), append(numbers, p.Number)
	}
	return areNames(names) && areWords(numbers)
}

// isCount: may there be n parts of one thing?
func isCount(n int) bool { return 1 <= n && n <= api.MaxParts }

func (j *judge) arguments(list []int) bool {
	if len(list) > api.MaxArgs {
		return false
	}
	for _, place := range list {
		if !j.isPlace(place, 1) {
			return false
		}
	}
	return true
}

func (j *judge) otherTypes() bool {
	for _, t := range j.types[api.Bool+1:] {
		if !j.hasItsOwn(t) {
			return false
		}
	}
	return true
}

// hasItsOwn: has a type what its kind has, and nothing else?
func (j *judge) hasItsOwn(t api.Type) bool {
	switch t.Kind {
	case api.Enum:
		return alike(t, api.Type{Kind: t.Kind, Members: t.Members}) && j.members(t.Members)
	case api.Fixed:
		return alike(t, api.Type{Kind: t.Kind, Size: t.Size}) && isLength(t.Size)
	case api.Opaque, api.String:
		return alike(t, api.Type{Kind: t.Kind, Size: t.Size}) && isWord(t.Size)
	case api.Array:
		return alike(t, api.Type{Kind: t.Kind, Size: t.Size, Of: t.Of}) && isLength(t.Size) && j.isPlace(t.Of, 1)
	case api.List:
		return alike(t, api.Type{Kind: t.Kind, Size: t.Size, Of: t.Of}) && isWord(t.Size) && j.isPlace(t.Of, 1)
	case api.Maybe:
		return alike(t, api.Type{Kind: t.Kind, Of: t.Of}) && j.isPlace(t.Of, 1)
	case api.Struct:
		return alike(t, api.Type{Kind: t.Kind, Fields: t.Fields}) && j.fields(t.Fields)
	case api.Union:
		return alike(t, api.Type{Kind: t.Kind, Of: t.Of, Arms: t.Arms, Else: t.Else}) && j.union(t)
	}
	return false
}

// isLength: may a Fixed or an Array have n bytes or elements?
func isLength(n int) bool { return 1 <= n && n <= api.MaxBytes }

func (j *judge) members(list []api.Member) bool {
	if !isCount(len(list)) {
		return false
	}
	var numbers []int
	for _, m := range list {
		// TRUE and FALSE are constants too, but not among the Names.
		named := j.names.of(m.Name)
		if named.kind != aConstant || named.nth == unlisted || named.value != m.Number || !isInt(m.Number) {
			return false
		}
		numbers = append(numbers, m.Number)
	}
	return unlike(numbers)
}

func (j *judge) fields(list []api.Field) bool {
	if !isCount(len(list)) {
		return false
	}
	var names []string
	for _, f := range list {
		if !j.isPlace(f.Type, 1) {
			return false
		}
		names = append(names, f.Name)
	}
	return areNames(names)
}

func (j *judge) union(t api.Type) bool {
	arms := t.Arms
	if last := len(arms) - 1; t.Else != -1 {
		if t.Else != last || len(arms[last].Cases) > 0 {
			return false
		}
		arms = arms[:last]
	}
	if !isCount(len(arms)) || !j.isPlace(t.Of, 1) || !tells(j.types[t.Of]) {
		return false
	}
	return j.cases(arms, j.types[t.Of]) && j.arms(t.Arms)
}

func (j *judge) cases(arms []api.Arm, of api.Type) bool {
	var all []int
	for _, a := range arms {
		if !isCount(len(a.Cases)) {
			return false
		}
		for _, n := range a.Cases {
			if !isNumber(of, n) {
				return false
			}
		}
		all = append(all, a.Cases...)
	}
	return unlike(all)
}

func (j *judge) arms(list []api.Arm) bool {
	var names []string
	for _, a := range list {
		if !j.isPlace(a.Type, 0) || (a.Name == "") != (a.Type == api.Void) {
			return false
		}
		if a.Name != "" {
			names = append(names, a.Name)
		}
	}
	return areNames(names)
}

// leastValues: has no type itself within, and does each one's least value fit?
func (j *judge) leastValues() bool {
	m := newMeasurer(j.types)
	for place := range j.types {
		if !m.fits(place) {
			return false
		}
	}
	return true
}

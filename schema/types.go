package schema

import (
	"slices"

	"callbox/api"
)

// value is the number that a number or a constant's name says.
func (r *resolver) value(t api.Tree) (int, *fault) {
	if t.Kind == api.NodeNumber {
		return t.Number, nil
	}
	return r.reference(t, aConstant)
}

// reference is what stands under a name, which must be of a kind.
func (r *resolver) reference(t api.Tree, kind int) (int, *fault) {
	switch m := r.names.of(t.Name); m.kind {
	case kind:
		return m.value, nil
	case nothing:
		return 0, wrong(api.ErrSchemaNone, t)
	}
	return 0, wrong(api.ErrSchemaKind, t)
}

// written is the place of a type as it is written ahead of a name.
func (r *resolver) written(t api.Tree) (int, *fault) {
	switch t.Kind {
	case api.NodeRef:
		return r.namedType(t)
	case api.NodeEnum, api.NodeStruct, api.NodeUnion:
		x, bad := r.body(t)
		if bad != nil {
			return 0, bad
		}
		return r.add(x, t)
	}
	return api.Int + t.Kind - api.NodeInt, nil
}

// namedType is the place of a name's type. A type that has no end yet may stand within itself only where a value may do without it.
func (r *resolver) namedType(t api.Tree) (int, *fault) {
	place, bad := r.reference(t, aType)
	if bad == nil && place == r.own && !r.loose {
		bad = wrong(api.ErrSchemaLoop, t)
	}
	return place, bad
}

// declaration is the place of the type that is declared. Whether the name is there twice is asked between its type and its value.
func (r *resolver) declaration(t api.Tree, twice func(name string) bool) (int, *fault) {
	of, bad := r.base(t)
	if bad != nil {
		return 0, bad
	}
	if twice(t.Name) {
		return 0, wrong(api.ErrSchemaTwice, t)
	}
	switch t.Kind {
	case api.NodePlain:
		return of, nil
	case api.NodeMaybe:
		return r.add(api.Type{Kind: api.Maybe, Of: of}, t)
	}
	size, bad := r.size(t)
	if bad != nil {
		return 0, bad
	}
	return r.add(api.Type{Kind: sizedKind(t), Size: size, Of: of}, t)
}

// base is the place of the type that a declaration begins with; opaque and string are none by themselves.
func (r *resolver) base(t api.Tree) (int, *fault) {
	if k := t.Kids[0].Kind; k == api.NodeOpaque || k == api.NodeString {
		return 0, nil
	}
	around := r.loose
	r.loose = around || t.Kind == api.NodeMaybe || t.Kind == api.NodeList
	place, bad := r.written(t.Kids[0])
	r.loose = around
	return place, bad
}

func (r *resolver) size(t api.Tree) (int, *fault) {
	if len(t.Kids) == 1 {
		return api.MaxWord, nil
	}
	low, high := 0, api.MaxWord
	if t.Kind == api.NodeFixed {
		low, high = 1, api.MaxBytes
	}
	n, bad := r.value(t.Kids[1])
	if bad == nil && (n < low || n > high) {
		bad = wrong(api.ErrSchemaRange, t.Kids[1])
	}
	return n, bad
}

func sizedKind(t api.Tree) int {
	fixed := t.Kind == api.NodeFixed
	switch of := t.Kids[0].Kind; {
	case of == api.NodeOpaque && fixed:
		return api.Fixed
	case of == api.NodeOpaque:
		return api.Opaque
	case of == api.NodeString:
		return api.String
	case fixed:
		return api.Array
	}
	return api.List
}

// body is the type that an enum, a struct or a union writes.
func (r *resolver) body(t api.Tree) (api.Type, *fault) {
	switch t.Kind {
	case api.NodeEnum:
		return r.enum(t)
	case api.NodeStruct:
		return r.structure(t)
	}
	return r.union(t)
}

func (r *resolver) enum(t api.Tree) (api.Type, *fault) {
	x := api.Type{Kind: api.Enum}
	for _, kid := range t.Kids {
		if r.names.stands(kid.Name) {
			return x, wrong(api.ErrSchemaTwice, kid)
		}
		n, bad := r.value(kid.Kids[0])
		if bad != nil {
			return x, bad
		}
		if !isInt(n) {
			return x, wrong(api.ErrSchemaRange, kid.Kids[0])
		}
		if isNumber(x, n) {
			return x, wrong(api.ErrSchemaCase, kid.Kids[0])
		}
		r.names.take(kid.Name, aConstant, n)
		x.Members = append(x.Members, api.Member{Name: kid.Name, Number: n})
	}
	return x, nil
}

func (r *resolver) structure(t api.Tree) (api.Type, *fault) {
	x := api.Type{Kind: api.Struct}
	twice := func(name string) bool {
		return slices.ContainsFunc(x.Fields, func(f api.Field) bool { return f.Name == name })
	}
	for _, kid := range t.Kids {
		if kid.Kind == api.NodeVoid {
			return x, wrong(api.ErrSchemaVoid, kid)
		}
		place, bad := r.declaration(kid, twice)
		if bad != nil {
			return x, bad
		}
		x.Fields = append(x.Fields, api.Field{Name: kid.Name, Type: place})
	}
	return x, nil
}

func (r *resolver) union(t api.Tree) (api.Type, *fault) {
	first := t.Kids[0]
	x := api.Type{Kind: api.Union, Else: -1}
	twice := func(name string) bool {
		return name == first.Name || slices.ContainsFunc(x.Arms, func(a api.Arm) bool { return a.Name == name })
	}
	of, bad := r.discriminant(first)
	if bad != nil {
		return x, bad
	}
	x.Of = of
	for _, kid := range t.Kids[1:] {
		// A default has no values ahead of its declaration.
		last := len(kid.Kids) - 1
		cases, bad := r.cases(kid.Kids[:last], x)
		if bad != nil {
			return x, bad
		}
		arm, bad := r.arm(kid.Kids[last], twice)
		if bad != nil {
			return x, bad
		}
		if kid.Kind == api.NodeElse {
			x.Else = len(x.Arms)
		}
		arm.Cases = cases
		x.Arms = append(x.Arms, arm)
	}
	return x, nil
}

// discriminant is the place of the type that tells a union's arms apart.
func (r *resolver) discriminant(t api.Tree) (int, *fault) {
	if t.Kind != api.NodePlain {
		return 0, wrong(api.ErrSchemaKind, t)
	}
	place, bad := r.written(t.Kids[0])
	if bad == nil && !tells(r.types[place]) {
		bad = wrong(api.ErrSchemaKind, t.Kids[0])
	}
	return place, bad
}

// cases are the numbers of one more arm of a union.
func (r *resolver) cases(values []api.Tree, x api.Type) ([]int, *fault) {
	var cases []int
	for _, v := range values {
		n, bad := r.value(v)
		if bad != nil {
			return nil, bad
		}
		there := slices.Contains(cases, n) || slices.ContainsFunc(x.Arms, func(a api.Arm) bool { return slices.Contains(a.Cases, n) })
		if there || !isNumber(r.types[x.Of], n) {
			return nil, wrong(api.ErrSchemaCase, v)
		}
		cases = append(cases, n)
	}
	return cases, nil
}

// arm is an arm, but for its cases.
func (r *resolver) arm(t api.Tree, twice func(name string) bool) (api.Arm, *fault) {
	if t.Kind == api.NodeVoid {
		return api.Arm{}, nil
	}
	place, bad := r.declaration(t, twice)
	return api.Arm{Name: t.Name, Type: place}, bad
}

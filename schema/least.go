package schema

import "callbox/api"

// least is what a type's least value has.
type least struct {
	bytes int
	depth int
}

func (l least) fits() bool { return l.bytes <= api.MaxBytes && l.depth <= api.MaxDeep }

// bounded is no more than just too great: what has it within, again and again, would soon be too great for an int.
func (l least) bounded() least {
	return least{min(l.bytes, api.MaxBytes+1), min(l.depth, api.MaxDeep+1)}
}

// measurer measures least values, those first that others hang on.
type measurer struct {
	types []api.Type
	known []least // a depth of 0: not yet
	open  []bool  // the types that are being gone through
}

func newMeasurer(types []api.Type) *measurer {
	return &measurer{types, make([]least, len(types)), make([]bool, len(types))}
}

// fits: has a type not itself within, and is its least value not too great?
func (m *measurer) fits(place int) bool { return m.measure(place) && m.known[place].fits() }

// measure fails of a type that has itself within.
func (m *measurer) measure(place int) bool {
	if m.known[place].depth > 0 {
		return true
	}
	if m.open[place] {
		return false
	}
	m.open[place] = true
	for _, part := range within(m.types[place]) {
		if !m.measure(part) {
			return false
		}
	}
	m.known[place] = leastOf(m.types[place], m.known).bounded()
	return true
}

// within are the places of the types that a value of t has within, whichever it is.
func within(t api.Type) []int {
	var places []int
	if t.Kind == api.Array || t.Kind == api.Union {
		places = append(places, t.Of)
	}
	for _, f := range t.Fields {
		places = append(places, f.Type)
	}
	for _, a := range t.Arms {
		places = append(places, a.Type)
	}
	return places
}

// leastOf measures a type's least value by those of the types that it has within.
func leastOf(t api.Type, known []least) least {
	switch t.Kind {
	case api.Void:
		return least{0, 1}
	case api.Hyper, api.Uhyper, api.Double:
		return least{8, 1}
	case api.Fixed:
		return least{(t.Size + 3) / 4 * 4, 1}
	case api.Array:
		of := known[t.Of]
		return least{t.Size * of.bytes, 1 + of.depth}
	case api.Struct:
		var sum least
		for _, f := range t.Fields {
			sum.bytes += known[f.Type].bytes
			sum.depth = max(sum.depth, known[f.Type].depth)
		}
		return least{sum.bytes, 1 + sum.depth}
	case api.Union:
		// An arm that has cases stands ahead of the one without.
		arm := known[t.Arms[0].Type]
		return least{4 + arm.bytes, 1 + arm.depth}
	}
	// A number of four bytes: the value itself, how many there are, or whether there is one.
	return least{4, 1}
}

package codec

import "callbox/api"

// noElse stands in a type, and in an operation, that has nothing for all other cases.
const noElse = -1

// writer lays down the operations of types, one type behind the other.
type writer struct {
	entries []int
	ops     []api.Op
}

// codeOf is the code of the types of a schema that may be.
func codeOf(types []api.Type) api.Code {
	w := &writer{entries: entriesOf(types)}
	for _, t := range types {
		lay := w.wayOf(t.Kind)
		lay(t)
		w.put(api.Op{Code: api.OpEnd})
	}
	return api.Code{Ops: w.ops, Entries: w.entries}
}

// entriesOf is made ahead of all operations, as a type may name one that stands behind it.
func entriesOf(types []api.Type) []int {
	var entries []int
	next := 0
	for _, t := range types {
		entries = append(entries, next)
		next += 2 + len(t.Fields)
	}
	return entries
}

// wayOf is how the operations of a type of that kind are laid down.
func (w *writer) wayOf(kind int) func(api.Type) {
	switch kind {
	case api.Enum:
		return w.enum
	case api.Fixed, api.Opaque, api.String:
		return w.bytes
	case api.Array, api.List:
		return w.row
	case api.Maybe:
		return w.maybe
	case api.Struct:
		return w.structure
	case api.Union:
		return w.union
	}
	return w.plain
}

func (w *writer) put(op api.Op) { w.ops = append(w.ops, op) }

func (w *writer) plain(t api.Type) { w.put(api.Op{Code: opOf(t.Kind)}) }

func (w *writer) bytes(t api.Type) { w.put(api.Op{Code: opOf(t.Kind), A: t.Size}) }

func (w *writer) row(t api.Type) {
	w.put(api.Op{Code: opOf(t.Kind), A: t.Size, B: w.entries[t.Of]})
}

func (w *writer) maybe(t api.Type) { w.put(api.Op{Code: api.OpMaybe, B: w.entries[t.Of]}) }

func (w *writer) enum(t api.Type) {
	var numbers []int
	for _, m := range t.Members {
		numbers = append(numbers, m.Number)
	}
	w.put(api.Op{Code: api.OpEnum, T: numbers})
}

func (w *writer) structure(t api.Type) {
	w.put(api.Op{Code: api.OpStruct, A: len(t.Fields)})
	for _, f := range t.Fields {
		w.field(f.Type)
	}
}

// field lays down what a field of the type at a place is.
func (w *writer) field(place int) {
	if place <= api.Bool {
		// The types that are always there stand at the places of their kinds.
		w.put(api.Op{Code: opOf(place)})
		return
	}
	w.put(api.Op{Code: api.OpCall, B: w.entries[place]})
}

func (w *writer) union(t api.Type) {
	op := api.Op{Code: api.OpUnion, A: noElse, B: w.entries[t.Of]}
	for _, a := range t.Arms {
		for _, n := range a.Cases {
			op.T = append(op.T, n, w.entries[a.Type])
		}
	}
	if t.Else != noElse {
		op.A = w.entries[t.Arms[t.Else].Type]
	}
	w.put(op)
}

// opOf is the operation with which a type of that kind begins, and kindOf the kind of such a type: their numbers run side by side, but for a union's, as OpCall, with which no type begins, stands ahead of it.
func opOf(kind int) int { return kind + api.OpVoid }

func kindOf(op int) int { return op - api.OpVoid }

package stub

import (
	"iter"
	"slices"
	"strings"

	"callbox/api"
)

// sourceLines gives the lines of the source of a right code and right names, each with the byte 10 that ends it.
func sourceLines(c api.Code, names []api.Named) iter.Seq[string] {
	return func(yield func(string) bool) {
		if !yield(headForm) {
			return
		}
		for _, n := range names {
			if !yield(nameLine(n)) {
				return
			}
		}
		for place := range c.Entries {
			for line := range typeLines(c, place) {
				if !yield(line) {
					return
				}
			}
		}
	}
}

// typeLines gives the lines of the type at a place.
func typeLines(c api.Code, place int) iter.Seq[string] {
	return func(yield func(string) bool) {
		front := blanks{op: api.Op{B: place}}
		if !yield(front.fill(frontForm)) {
			return
		}
		for _, op := range c.Ops[c.Entries[place]:] {
			if op.Code == api.OpEnd {
				yield(tailForm)
				return
			}
			if !yield(opLine(op, c.Entries)) {
				return
			}
		}
	}
}

func nameLine(n api.Named) string {
	if n.Const {
		return blanks{n.Name, api.Op{A: n.Value}}.fill(constForm)
	}
	return blanks{n.Name, api.Op{B: n.Value}}.fill(typeForm)
}

func opLine(op api.Op, entries []int) string {
	placed := renamed(op, func(entry int) int {
		place, _ := slices.BinarySearch(entries, entry)
		return place
	})
	return blanks{op: placed}.fill(opForms[op.Code])
}

// renamed is an operation, of new memory, that names types otherwise.
func renamed(op api.Op, other func(int) int) api.Op {
	op.T = slices.Clone(op.T)
	switch op.Code {
	case api.OpArray, api.OpList, api.OpMaybe, api.OpCall:
		op.B = other(op.B)
	case api.OpUnion:
		op.B = other(op.B)
		if op.A != noElse {
			op.A = other(op.A)
		}
		for i := 1; i < len(op.T); i += 2 {
			op.T[i] = other(op.T[i])
		}
	}
	return op
}

// textLines gives a text's lines and their numbers, from 1 on, each with the byte 10 that ends it; what stands behind the last byte 10 is a line without one.
func textLines(s string) iter.Seq2[int, string] {
	return func(yield func(int, string) bool) {
		rest := s
		for n := 1; rest != ""; n++ {
			end := strings.IndexByte(rest, '\n') + 1
			if end == 0 {
				end = len(rest)
			}
			if !yield(n, rest[:end]) {
				return
			}
			rest = rest[end:]
		}
	}
}

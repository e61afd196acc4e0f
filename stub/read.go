package stub

import (
	"strings"

	"callbox/api"
)

// What the lines that were read are followed by.
const (
	byHead = iota
	byNames
	byOperations
	byTypes
)

// reader keeps what lines say. Operations name types by their places till all entries are known.
type reader struct {
	followed int
	names    []api.Named
	ops      []api.Op
	entries  []int
}

// wrongLine reads a text's lines; it is the number of the first one that is of no form that may stand there, 0, if there is none.
func (r *reader) wrongLine(s string) int {
	next := 1
	for n, line := range textLines(s) {
		if !r.take(line) {
			return n
		}
		next = n + 1
	}
	if r.followed != byTypes {
		return next
	}
	return 0
}

func (r *reader) take(line string) bool {
	switch r.followed {
	case byHead:
		return r.takeHead(line)
	case byNames:
		return r.takeConst(line) || r.takeType(line) || r.takeFront(line)
	case byOperations:
		return r.takeOperation(line) || r.takeTail(line)
	}
	return r.takeFront(line)
}

func (r *reader) takeHead(line string) bool {
	r.followed = byNames
	return line == headForm
}

func (r *reader) takeConst(line string) bool {
	b, is := match(constForm, line)
	if is {
		r.names = append(r.names, api.Named{Name: strings.Clone(b.name), Const: true, Value: b.op.A})
	}
	return is
}

func (r *reader) takeType(line string) bool {
	b, is := match(typeForm, line)
	if is {
		r.names = append(r.names, api.Named{Name: strings.Clone(b.name), Value: b.op.B})
	}
	return is
}

func (r *reader) takeFront(line string) bool {
	b, is := match(frontForm, line)
	if !is || b.op.B != len(r.entries) {
		return false
	}
	r.entries = append(r.entries, len(r.ops))
	r.followed = byOperations
	return true
}

func (r *reader) takeOperation(line string) bool {
	for code := api.OpEnd + 1; code < len(opForms); code++ {
		if b, is := match(opForms[code], line); is {
			b.op.Code = code
			r.ops = append(r.ops, b.op)
			return true
		}
	}
	return false
}

func (r *reader) takeTail(line string) bool {
	if line != tailForm {
		return false
	}
	r.ops = append(r.ops, api.Op{Code: api.OpEnd})
	r.followed = byTypes
	return true
}

// code is that of all lines, right or not.
func (r *reader) code() api.Code {
	for i, op := range r.ops {
		r.ops[i] = renamed(op, r.entryOf)
	}
	return api.Code{Ops: r.ops, Entries: r.entries}
}

// noEntry is none of any code, and not noElse: an operation that names it is in no right code.
const noEntry = -2

func (r *reader) entryOf(place int) int {
	if place >= len(r.entries) {
		return noEntry
	}
	return r.entries[place]
}

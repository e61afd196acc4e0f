package machine

import (
	"cmp"
	"slices"
	"strings"

	"callbox/api"
	"callbox/codec"
	"callbox/engine"
	"callbox/schema"
	"callbox/value"
)

// fuel is enough for all arguments that may be: of the values within them that have no parts each has four bytes for itself (a union's void arm those of the union's number), each stands within 64 values at the most, and a value costs five at the most.
const fuel = 5 * api.MaxDeep * api.MaxBytes

// book is a version of a program and a table of it, held as bytes: a value has one text and a text one value, so arguments are the same just if their bytes are, and no schema is kept.
type book struct {
	code  api.Code
	procs []procedure // by rising numbers, without 0
	rows  []row
}

type procedure struct {
	number int
	args   []int  // the entries of their types
	least  string // what it answers where there is no row
}

// call is what a row is found by.
type call struct {
	state, proc int
	args        string
}

type row struct {
	call   call
	to     int
	result string
}

// newBook is that of a version and a table, or why there is none.
func newBook(x api.Schema, prog, vers int, t api.Table) (book, api.Errno) {
	v, is := versionOf(x, prog, vers)
	if !is {
		return book{}, api.ErrMachineNone
	}
	if t.States < 1 || t.States > api.MaxStates || !isState(t, t.Start) || len(t.Rows) > api.MaxRows {
		return book{}, api.ErrMachineTable
	}
	rows, right := rowsOf(x, v, t)
	if !right {
		return book{}, api.ErrMachineTable
	}
	// Nothing is wrong here: the schema may be, or the version would not be there.
	code, _ := codec.Lower(x)
	return book{code, proceduresOf(x, v), rows}, api.OK
}

// versionOf is a version, and whether it is there.
func versionOf(x api.Schema, prog, vers int) (api.Version, bool) {
	if !schema.Right(x) {
		return api.Version{}, false
	}
	// Where there is no such program, it is an empty one, which has no versions.
	p, _ := find(x.Programs, func(p api.Program) bool { return p.Number == prog })
	return find(p.Versions, func(v api.Version) bool { return v.Number == vers })
}

// proceduresOf a version are those that have something to do.
func proceduresOf(x api.Schema, v api.Version) []procedure {
	var procs []procedure
	for _, p := range v.Procs {
		if p.Number != 0 {
			procs = append(procs, procedure{p.Number, slices.Clone(p.Args), leastOf(x, p.Result)})
		}
	}
	slices.SortFunc(procs, func(a, b procedure) int { return cmp.Compare(a.number, b.number) })
	return procs
}

// leastOf is the least value of a type as bytes: each type of a schema that may be has one that fits.
func leastOf(x api.Schema, place int) string {
	v, _ := value.Least(x, place)
	s, _ := value.Encode(x, place, v)
	return s
}

// rowsOf are a table's rows, and whether they may be.
func rowsOf(x api.Schema, v api.Version, t api.Table) ([]row, bool) {
	var rows []row
	for _, r := range t.Rows {
		if !isState(t, r.State) || !isState(t, r.To) {
			return nil, false
		}
		made, right := newRow(x, v, r)
		if _, twice := rowOf(rows, made.call); twice || !right {
			return nil, false
		}
		rows = append(rows, made)
	}
	return rows, true
}

// newRow is a row as bytes, and whether its procedure and its values may be.
func newRow(x api.Schema, v api.Version, r api.Row) (row, bool) {
	p, is := find(v.Procs, func(p api.Proc) bool { return p.Number == r.Proc })
	if !is || r.Proc == 0 {
		return row{}, false
	}
	args, right := lay(x, p.Args, r.Args)
	result, e := value.Encode(x, p.Result, r.Result)
	if !right || e != api.OK {
		return row{}, false
	}
	return row{call{r.State, r.Proc, args}, r.To, result}, true
}

// lay is values as bytes, one behind the other, and whether they are those of the types, and few enough together.
func lay(x api.Schema, places []int, l []api.Value) (string, bool) {
	if len(places) != len(l) {
		return "", false
	}
	var all strings.Builder
	for i, place := range places {
		s, e := value.Encode(x, place, l[i])
		if e != api.OK {
			return "", false
		}
		all.WriteString(s)
	}
	return all.String(), all.Len() <= api.MaxBytes
}

// step is what is done in a state, which is one of the table's, with a call.
func (b book) step(state, proc int, args string) (int, int, string) {
	if proc == 0 {
		return state, doNothing(args), ""
	}
	p, is := find(b.procs, func(p procedure) bool { return p.number == proc })
	if !is {
		return state, api.ProcUnavail, ""
	}
	if _, _, e := engine.Unpack(b.code, p.args, args, fuel); e != api.OK {
		return state, api.GarbageArgs, ""
	}
	r, is := rowOf(b.rows, call{state, proc, args})
	if !is {
		return state, api.Success, p.least
	}
	return r.to, api.Success, r.result
}

// doNothing is what becomes of a call of procedure 0.
func doNothing(args string) int {
	if args != "" {
		return api.GarbageArgs
	}
	return api.Success
}

// numbers are those of the procedures.
func (b book) numbers() []int {
	var all []int
	for _, p := range b.procs {
		all = append(all, p.number)
	}
	return all
}

func rowOf(rows []row, c call) (row, bool) {
	return find(rows, func(r row) bool { return r.call == c })
}

// find is the first one of a list that is as asked, and whether there is one.
func find[T any](list []T, is func(T) bool) (T, bool) {
	for _, one := range list {
		if is(one) {
			return one, true
		}
	}
	var none T
	return none, false
}

// isState: is n one of a table's states?
func isState(t api.Table, n int) bool { return 0 <= n && n < t.States }

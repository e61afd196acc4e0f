package machine_test

import (
	"slices"

	"callbox/api"
	"callbox/schema"
	"callbox/value"
)

// This is chapter 19 over values: rows and calls are held against each other by value.Same, and bytes are parted by trying.

// there: is the version?
func there(x api.Schema, prog, vers int) bool {
	return schema.Right(x) && slices.ContainsFunc(x.Programs, func(p api.Program) bool {
		return p.Number == prog && slices.ContainsFunc(p.Versions, func(v api.Version) bool { return v.Number == vers })
	})
}

// isTable: is y a table of a version that is there?
func isTable(x api.Schema, prog, vers int, y api.Table) bool {
	in := func(n int) bool { return n >= 0 && n <= y.States-1 }
	if y.States < 1 || y.States > 64 || !in(y.Start) || len(y.Rows) > 200 {
		return false
	}
	for i, r := range y.Rows {
		p, is := schema.Proc(x, prog, vers, r.Proc)
		if !is || r.Proc == 0 || !in(r.State) || !in(r.To) || len(p.Args) != len(r.Args) || value.Fits(x, p.Result, r.Result) != api.OK {
			return false
		}
		n := 0
		for k, place := range p.Args {
			s, e := value.Encode(x, place, r.Args[k])
			if e != api.OK {
				return false
			}
			n += len(s)
		}
		if n > 1000 {
			return false
		}
		for _, o := range y.Rows[:i] {
			if o.State == r.State && o.Proc == r.Proc && slices.EqualFunc(o.Args, r.Args, value.Same) {
				return false
			}
		}
	}
	return true
}

// said are the arguments that bytes say, by trying each place at which the first one may end.
func said(x api.Schema, places []int, s string) ([]api.Value, bool) {
	if len(places) == 0 {
		return nil, s == ""
	}
	for end := 0; end <= len(s) && len(s) <= 1000; end += 4 {
		if v, e := value.Decode(x, places[0], s[:end]); e == api.OK {
			if l, is := said(x, places[1:], s[end:]); is {
				return append([]api.Value{v}, l...), true
			}
		}
	}
	return nil, false
}

// modelStep is M1 of a table that is one.
func modelStep(x api.Schema, prog, vers int, y api.Table, state, proc int, args string) told {
	if proc == 0 {
		if args == "" {
			return told{state, api.Success, ""}
		}
		return told{state, api.GarbageArgs, ""}
	}
	p, is := schema.Proc(x, prog, vers, proc)
	if !is {
		return told{state, api.ProcUnavail, ""}
	}
	l, is := said(x, p.Args, args)
	if !is {
		return told{state, api.GarbageArgs, ""}
	}
	to := state
	v, _ := value.Least(x, p.Result)
	for _, r := range y.Rows {
		if r.State == state && r.Proc == proc && slices.EqualFunc(r.Args, l, value.Same) {
			to, v = r.To, r.Result
		}
	}
	s, _ := value.Encode(x, p.Result, v)
	return told{to, api.Success, s}
}

// model is M1 of anything.
func model(x api.Schema, prog, vers int, y api.Table, state, proc int, args string) told {
	if !there(x, prog, vers) || !isTable(x, prog, vers, y) || state < 0 || state >= y.States {
		return told{state, api.SystemErr, ""}
	}
	return modelStep(x, prog, vers, y, state, proc, args)
}

// refusal is M2's.
func refusal(x api.Schema, prog, vers int, y api.Table) api.Errno {
	if !there(x, prog, vers) {
		return api.ErrMachineNone
	}
	if !isTable(x, prog, vers, y) {
		return api.ErrMachineTable
	}
	return api.OK
}

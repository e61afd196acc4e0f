package world

import (
	"strings"

	"callbox/api"
	"callbox/codec"
	"callbox/engine"
	"callbox/notation"
	"callbox/schema"
	"callbox/stub"
)

// fuel is what each run of the code may cost.
const fuel = 100000

func (w *world) addLine(l words) string {
	w.source += strings.Join(l[1:], "") + "\n"
	return ok
}

func (w *world) compile(words) string {
	x, e, at := schema.Compile(w.source)
	if e != api.OK {
		return failedAt(e, at)
	}
	// What compiles may be, so it has a code.
	code, _ := codec.Lower(x)
	w.schema, w.code, w.args, w.table = x, code, arguments{}, nil
	return counted("types", len(x.Types)) + " " + counted("names", len(x.Names)) + " " + counted("programs", len(x.Programs))
}

func (w *world) hasSchema() bool { return len(w.schema.Types) > 0 }

func (w *world) stub(words) string {
	if !w.hasSchema() {
		return none
	}
	text, e := stub.Print(w.code, w.schema.Names)
	if e != api.OK {
		return failed(e)
	}
	return counted("lines", strings.Count(text, "\n"))
}

// typeOf is the place of the type that a TYPE names, and whether there is one.
func (w *world) typeOf(word string) (int, bool) {
	if n, is := numberOf(word); is {
		return n, n < len(w.schema.Types)
	}
	return schema.Find(w.schema, word)
}

// valueOf is the value that a TEXT says, and the place of its type. If there is none, that is what is told of it.
func (w *world) valueOf(word, text string) (v api.Value, place int, wrong string) {
	place, is := w.typeOf(word)
	if !is {
		return api.Value{}, 0, none
	}
	v, e, at := notation.Parse(w.schema, place, text)
	if e != api.OK {
		return api.Value{}, 0, failedAt(e, at)
	}
	return v, place, ""
}

func (w *world) value(l words) string {
	v, place, wrong := w.valueOf(l[1], l[2])
	if wrong != "" {
		return wrong
	}
	s, _, e := engine.Encode(w.code, place, v, fuel)
	if e != api.OK {
		return failed(e)
	}
	return "bytes " + hexOf(s)
}

func (w *world) bytes(l words) string {
	place, is := w.typeOf(l[1])
	if !is {
		return none
	}
	v, _, e := engine.Decode(w.code, place, l.bytes(2), fuel)
	if e != api.OK {
		return failed(e)
	}
	text, e := notation.Print(w.schema, place, v)
	if e != api.OK {
		return failed(e)
	}
	return "value " + text
}

func (w *world) arg(l words) string {
	v, place, wrong := w.valueOf(l[1], l[2])
	if wrong != "" {
		return wrong
	}
	w.args.types = append(w.args.types, place)
	w.args.values = append(w.args.values, v)
	return ok
}

// takeArgs are the arguments, which are gone then.
func (w *world) takeArgs() arguments {
	taken := w.args
	w.args = arguments{}
	return taken
}

// pack lays arguments down.
func (w *world) pack(a arguments) (string, api.Errno) {
	// Without a schema there is no code that could be run, not even over nothing.
	if len(a.values) == 0 {
		return "", api.OK
	}
	s, _, e := engine.Pack(w.code, a.types, a.values, fuel)
	return s, e
}

func (w *world) addTable(l words) string {
	if !w.hasSchema() {
		return none
	}
	w.table = &table{l.number(1), l.number(2), api.Table{States: l.number(3), Start: l.number(4)}}
	return ok
}

func (w *world) row(l words) string {
	if w.table == nil {
		return none
	}
	v, _, wrong := w.valueOf(l[4], l[5])
	if wrong != "" {
		return wrong
	}
	made := api.Row{State: l.number(1), Proc: l.number(2), To: l.number(3), Args: w.takeArgs().values, Result: v}
	w.table.Rows = append(w.table.Rows, made)
	return ok
}

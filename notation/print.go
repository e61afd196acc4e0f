package notation

import (
	"strings"

	"callbox/api"
)

// writer lays down the texts of values that are of their types.
type writer struct {
	types []api.Type
	out   strings.Builder
}

func (w *writer) value(place int, v api.Value) {
	t := w.types[place]
	switch t.Kind {
	case api.Fixed, api.Opaque:
		w.out.WriteString(printOpaque(v.Text))
	case api.String:
		w.out.WriteString(quote(v.Text))
	case api.Array, api.List:
		w.elements(t, v.Items)
	case api.Maybe:
		w.maybe(t, v.Items)
	case api.Struct:
		w.fields(t, v.Items)
	case api.Union:
		w.union(t, v)
	default:
		w.out.WriteString(printAtom(t, v))
	}
}

func (w *writer) elements(t api.Type, parts []api.Value) {
	w.out.WriteString("[")
	for i, part := range parts {
		if i > 0 {
			w.out.WriteString(",")
		}
		w.value(t.Of, part)
	}
	w.out.WriteString("]")
}

func (w *writer) maybe(t api.Type, parts []api.Value) {
	if len(parts) == 0 {
		w.out.WriteString(none)
		return
	}
	w.out.WriteString("*")
	w.value(t.Of, parts[0])
}

func (w *writer) fields(t api.Type, parts []api.Value) {
	for i, f := range t.Fields {
		w.out.WriteString(aheadOf(i) + f.Name + "=")
		w.value(f.Type, parts[i])
	}
	w.out.WriteString("}")
}

func (w *writer) union(t api.Type, v api.Value) {
	w.out.WriteString("(" + printAtom(w.types[t.Of], api.Value{Int: v.Int}))
	arm, _ := armOf(t, v.Int)
	if arm.Type != api.Void {
		w.out.WriteString(":" + arm.Name + "=")
		w.value(arm.Type, v.Items[0])
	}
	w.out.WriteString(")")
}

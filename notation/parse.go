package notation

import (
	"strings"

	"callbox/api"
)

// reader reads a text from its front. What is wrong first is kept: behind it nothing is read any more, and nothing told.
type reader struct {
	types []api.Type
	text  string
	at    int       // how far it was read
	why   api.Errno // what was wrong first
	where int       // and at which byte
}

func (r *reader) fail(why api.Errno, where int) {
	if r.why == api.OK {
		r.why, r.where = why, where
	}
}

func (r *reader) rest() string { return r.text[r.at:] }

func (r *reader) sees(mark string) bool { return strings.HasPrefix(r.rest(), mark) }

// marks reads bytes of which each must stand there.
func (r *reader) marks(all string) {
	for i := range len(all) {
		if !r.sees(all[i : i+1]) {
			r.fail(api.ErrNotationForm, r.at)
			return
		}
		r.at++
	}
}

// run reads the longest run of such runes.
func (r *reader) run(of func(rune) bool) string {
	found := r.rest()
	for i, c := range found {
		if !of(c) {
			found = found[:i]
			break
		}
	}
	r.at += len(found)
	return found
}

func (r *reader) end() {
	if r.rest() != "" {
		r.fail(api.ErrNotationForm, r.at)
	}
}

func (r *reader) value(place int) api.Value {
	t := r.types[place]
	v := api.Value{Kind: t.Kind}
	if r.why != api.OK {
		return v
	}
	switch t.Kind {
	case api.Fixed, api.Opaque:
		v.Text = r.opaque(t)
	case api.String:
		v.Text = r.quoted(t)
	case api.Array, api.List:
		v.Items = r.elements(t)
	case api.Maybe:
		v.Items = r.maybe(t)
	case api.Struct:
		v.Items = r.fields(t)
	case api.Union:
		v.Int, v.Items = r.union(t)
	default:
		v = r.atom(t)
	}
	return v
}

func (r *reader) atom(t api.Type) api.Value {
	front := r.at
	v, e := parseAtom(t, r.run(inAtom))
	if e != api.OK {
		r.fail(e, front)
	}
	return v
}

func (r *reader) opaque(t api.Type) string {
	front := r.at
	r.marks("#")
	digits := r.run(isDigitOfSixteen)
	if len(digits)%2 != 0 {
		r.fail(api.ErrNotationForm, front)
		return ""
	}
	if !holds(t, len(digits)/2) {
		r.fail(api.ErrNotationRange, front)
	}
	return parseOpaque(digits)
}

func (r *reader) quoted(t api.Type) string {
	front := r.at
	r.marks(`"`)
	var out strings.Builder
	for r.why == api.OK && !r.sees(`"`) {
		b, width := unquoteByte(r.rest())
		if width == 0 {
			r.fail(api.ErrNotationForm, r.at)
		}
		out.WriteByte(b)
		r.at += width
	}
	r.marks(`"`)
	if !holds(t, out.Len()) {
		r.fail(api.ErrNotationRange, front)
	}
	return out.String()
}

func (r *reader) elements(t api.Type) []api.Value {
	front := r.at
	r.marks("[")
	var parts []api.Value
	for r.why == api.OK && !r.sees("]") {
		if len(parts) > 0 {
			r.marks(",")
		}
		parts = append(parts, r.value(t.Of))
	}
	r.marks("]")
	if !holds(t, len(parts)) {
		r.fail(api.ErrNotationRange, front)
	}
	return parts
}

func (r *reader) maybe(t api.Type) []api.Value {
	if r.sees("*") {
		r.marks("*")
		return []api.Value{r.value(t.Of)}
	}
	front := r.at
	if r.run(inAtom) != none {
		r.fail(api.ErrNotationForm, front)
	}
	return nil
}

func (r *reader) fields(t api.Type) []api.Value {
	var parts []api.Value
	for i, f := range t.Fields {
		r.marks(aheadOf(i) + f.Name + "=")
		parts = append(parts, r.value(f.Type))
	}
	r.marks("}")
	return parts
}

func (r *reader) union(t api.Type) (int, []api.Value) {
	r.marks("(")
	front := r.at
	told := r.atom(r.types[t.Of]).Int
	arm, is := armOf(t, told)
	if !is {
		r.fail(api.ErrNotationRange, front)
	}
	part := api.Value{}
	if arm.Type != api.Void {
		r.marks(":" + arm.Name + "=")
		part = r.value(arm.Type)
	}
	r.marks(")")
	return told, []api.Value{part}
}

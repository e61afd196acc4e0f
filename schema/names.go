package schema

import "callbox/api"

// What a name stands for.
const (
	nothing   = iota
	aType     // value: its place
	aConstant // value: its number
	aProgram
)

// unlisted is the nth of a name that is none of a schema's Names.
const unlisted = -1

// meaning is what stands under a name.
type meaning struct {
	kind  int
	value int
	nth   int // which one of the schema's Names it is
}

// space holds all names of a source, and how many of them are among the schema's Names.
type space struct {
	names  map[string]meaning
	listed int
}

func newSpace() *space {
	return &space{names: map[string]meaning{
		"TRUE":  {aConstant, 1, unlisted},
		"FALSE": {aConstant, 0, unlisted},
	}}
}

// of is what stands under a name, or a meaning of the kind nothing.
func (s *space) of(name string) meaning { return s.names[name] }

func (s *space) stands(name string) bool { return s.of(name).kind != nothing }

// take lets a name stand for something; it says whether it could.
func (s *space) take(name string, kind, value int) bool {
	if s.stands(name) {
		return false
	}
	nth := unlisted
	if kind != aProgram {
		nth = s.listed
		s.listed++
	}
	s.names[name] = meaning{kind, value, nth}
	return true
}

// list is a schema's Names. Each name knows its place there, so that the order in which the map gives them is not seen.
func (s *space) list() []api.Named {
	list := make([]api.Named, s.listed)
	for name, m := range s.names {
		if m.nth != unlisted {
			list[m.nth] = api.Named{Name: name, Const: m.kind == aConstant, Value: m.value}
		}
	}
	return list
}

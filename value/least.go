package value

import (
	"strings"

	"callbox/api"
)

// least is the least value of the type at a place.
func (all kinds) least(place int) api.Value {
	k := all[place]
	v := api.Value{Kind: k.number()}
	parts := 0
	switch k := k.(type) {
	case enum:
		v.Int = k.members[0].Number
	case fixed:
		v.Text = strings.Repeat("\x00", k.size)
	case array:
		parts = k.size
	case structure:
		parts = len(k.fields)
	case union:
		// The first arm of a schema that may be has cases.
		v.Int = k.arms[0].Cases[0]
		parts = 1
	}
	for i := range parts {
		v.Items = append(v.Items, all.least(typeOfPart(k, v, i)))
	}
	return v
}

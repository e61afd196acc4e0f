package portmap

import (
	"slices"

	"callbox/api"
)

func wordValue(n int) api.Value { return api.Value{Kind: api.Uint, Int: n} }

func boolValue(b bool) api.Value {
	if b {
		return api.Value{Kind: api.Bool, Int: 1}
	}
	return api.Value{Kind: api.Bool}
}

func structValue(fields ...api.Value) api.Value {
	return api.Value{Kind: api.Struct, Items: fields}
}

func mappingValue(x api.Mapping) api.Value {
	return structValue(wordValue(x.Prog), wordValue(x.Vers), wordValue(x.Prot), wordValue(x.Port))
}

// mappingOf is what mappingValue was made of.
func mappingOf(v api.Value) api.Mapping {
	return api.Mapping{Prog: v.Items[0].Int, Vers: v.Items[1].Int, Prot: v.Items[2].Int, Port: v.Items[3].Int}
}

// listValue is mappings as the source's list: each is followed by all behind it.
func listValue(l []api.Mapping) api.Value {
	list := api.Value{Kind: api.Maybe}
	for _, x := range slices.Backward(l) {
		list = api.Value{Kind: api.Maybe, Items: []api.Value{structValue(mappingValue(x), list)}}
	}
	return list
}

// mappingsOf is what listValue was made of.
func mappingsOf(list api.Value) []api.Mapping {
	var l []api.Mapping
	for len(list.Items) > 0 {
		entry := list.Items[0]
		l = append(l, mappingOf(entry.Items[0]))
		list = entry.Items[1]
	}
	return l
}

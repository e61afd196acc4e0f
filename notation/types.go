package notation

import (
	"slices"

	"callbox/api"
)

// holds: may a value of a type that has a Size have so many bytes, or elements?
func holds(t api.Type, n int) bool {
	if t.Kind == api.Fixed || t.Kind == api.Array {
		return n == t.Size
	}
	return n <= t.Size
}

// aheadOf is the mark ahead of a struct's i-th field.
func aheadOf(i int) string {
	if i == 0 {
		return "{"
	}
	return ","
}

// armOf is a union's arm for a number of its discriminant, if there is one.
func armOf(t api.Type, n int) (api.Arm, bool) {
	for _, a := range t.Arms {
		if slices.Contains(a.Cases, n) {
			return a, true
		}
	}
	if t.Else < 0 {
		return api.Arm{}, false
	}
	return t.Arms[t.Else], true
}

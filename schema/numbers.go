package schema

import (
	"math"
	"slices"

	"callbox/api"
)

// tells: may a type tell the arms of a union apart?
func tells(t api.Type) bool {
	return t.Kind == api.Int || t.Kind == api.Uint || t.Kind == api.Bool || t.Kind == api.Enum
}

// isNumber: is n a number of a type that tells arms apart?
func isNumber(t api.Type, n int) bool {
	switch t.Kind {
	case api.Int:
		return isInt(n)
	case api.Uint:
		return isWord(n)
	case api.Bool:
		return n == 0 || n == 1
	}
	return slices.ContainsFunc(t.Members, func(m api.Member) bool { return m.Number == n })
}

func isInt(n int) bool { return math.MinInt32 <= n && n <= math.MaxInt32 }

func isWord(n int) bool { return 0 <= n && n <= api.MaxWord }

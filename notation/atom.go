package notation

import (
	"slices"
	"strconv"
	"strings"

	"callbox/api"
	"callbox/real"
)

// none is what a Maybe says that has nothing.
const none = "none"

// inAtom: may a rune stand in an atom?
func inAtom(r rune) bool {
	return isDigit(r) || 'a' <= r && r <= 'z' || 'A' <= r && r <= 'Z' || strings.ContainsRune("_.+-", r)
}

func isDigit(r rune) bool { return '0' <= r && r <= '9' }

// wordsOf are the texts of all values that a type of words has, each with the Int of its value.
func wordsOf(t api.Type) []api.Member {
	switch t.Kind {
	case api.Void:
		return []api.Member{{Name: "void", Number: 0}}
	case api.Bool:
		return []api.Member{{Name: "FALSE", Number: 0}, {Name: "TRUE", Number: 1}}
	}
	return t.Members
}

// printAtom is the text of a value without parts and bytes.
func printAtom(t api.Type, v api.Value) string {
	switch t.Kind {
	case api.Int, api.Uint, api.Hyper:
		return strconv.Itoa(v.Int)
	case api.Uhyper:
		return strconv.FormatUint(uint64(v.Int), 10)
	case api.Float:
		return real.Print32(v.Single)
	case api.Double:
		return real.Print64(v.Double)
	}
	words := wordsOf(t)
	return words[slices.IndexFunc(words, func(w api.Member) bool { return w.Number == v.Int })].Name
}

// parseAtom is the value whose text an atom is.
func parseAtom(t api.Type, s string) (v api.Value, e api.Errno) {
	v.Kind = t.Kind
	switch t.Kind {
	case api.Int, api.Uint, api.Hyper, api.Uhyper:
		v.Int, e = parseWhole(t.Kind, s)
	case api.Float:
		v.Single, e = real.Parse32(s)
	case api.Double:
		v.Double, e = real.Parse64(s)
	default:
		v.Int, e = parseWord(wordsOf(t), s)
	}
	if e == api.ErrRealForm {
		e = api.ErrNotationForm
	}
	return v, e
}

func parseWord(words []api.Member, s string) (int, api.Errno) {
	i := slices.IndexFunc(words, func(w api.Member) bool { return w.Name == s })
	if i < 0 {
		return 0, api.ErrNotationForm
	}
	return words[i].Number, api.OK
}

func parseWhole(kind int, s string) (int, api.Errno) {
	signed := kind == api.Int || kind == api.Hyper
	if !isWhole(s) || !signed && s[0] == '-' {
		return 0, api.ErrNotationForm
	}
	size := 32
	if kind == api.Hyper || kind == api.Uhyper {
		size = 64
	}
	var n int
	var err error
	if signed {
		var told int64
		told, err = strconv.ParseInt(s, 10, size)
		n = int(told)
	} else {
		// A number above 2^63 - 1 is to be told less 2^64, as the conversion makes it.
		var told uint64
		told, err = strconv.ParseUint(s, 10, size)
		n = int(told)
	}
	if err != nil {
		return 0, api.ErrNotationRange
	}
	return n, api.OK
}

// isWhole: is it digits as whole numbers have them, however many?
func isWhole(s string) bool {
	digits := strings.TrimPrefix(s, "-")
	if digits == "" || digits[0] == '0' {
		return s == "0"
	}
	for _, r := range digits {
		if !isDigit(r) {
			return false
		}
	}
	return true
}

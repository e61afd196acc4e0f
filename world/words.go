package world

import (
	"strconv"
	"strings"

	"callbox/lex"
)

// mostNumber is the greatest number that a line may have.
const mostNumber = 1 << 40

// words are those of a line that has a form.
type words []string

// number is the i-th word, which is an N.
func (l words) number(i int) int {
	n, _ := numberOf(l[i])
	return n
}

// bytes are what the i-th word says, which is a HEX.
func (l words) bytes(i int) string {
	s, _ := bytesOf(l[i])
	return s
}

// isWord: is s what a form wants?
func isWord(want, s string) bool {
	switch want {
	case "N":
		return isNumber(s)
	case "NAME":
		return lex.IsName(s)
	case "TYPE", "WHOM":
		return isNumber(s) || lex.IsName(s)
	case "HEX":
		_, is := bytesOf(s)
		return is
	case "TEXT":
		return s != ""
	case "ASK":
		return procOf(s) != 0
	}
	return s == want
}

func isNumber(s string) bool {
	_, is := numberOf(s)
	return is
}

// numberOf is the number that s says, and whether it says one.
func numberOf(s string) (int, bool) {
	n, err := strconv.Atoi(s)
	// Each number is written in one way: so a sign, and a 0 ahead, fall out here.
	if err != nil || n < 0 || n > mostNumber || strconv.Itoa(n) != s {
		return 0, false
	}
	return n, true
}

const (
	hexDigits = "0123456789abcdef"
	noBytes   = "-"
)

// hexOf is how bytes are told.
func hexOf(s string) string {
	if s == "" {
		return noBytes
	}
	var out strings.Builder
	for i := range len(s) {
		out.WriteByte(hexDigits[s[i]>>4])
		out.WriteByte(hexDigits[s[i]&15])
	}
	return out.String()
}

// bytesOf are the bytes that s says, and whether it says any.
func bytesOf(s string) (string, bool) {
	if s == noBytes {
		return "", true
	}
	if s == "" || len(s)%2 != 0 {
		return "", false
	}
	var out strings.Builder
	for ; s != ""; s = s[2:] {
		high, low := strings.IndexByte(hexDigits, s[0]), strings.IndexByte(hexDigits, s[1])
		if high < 0 || low < 0 {
			return "", false
		}
		out.WriteByte(byte(high<<4 | low))
	}
	return out.String(), true
}

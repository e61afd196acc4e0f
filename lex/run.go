package lex

import "callbox/api"

const (
	least    = -1 << 31
	greatest = 1<<32 - 1
	noDigit  = 16 // of no base that there is
)

func isBlank(c byte) bool { return c == ' ' || c == '\t' || c == '\n' || c == '\r' }

func isLetter(c byte) bool { return c >= 'a' && c <= 'z' || c >= 'A' && c <= 'Z' }

func isDigit(c byte) bool { return c >= '0' && c <= '9' }

// isRun: may a byte stand in a run?
func isRun(c byte) bool { return isLetter(c) || isDigit(c) || c == '_' }

func isSign(c byte) bool {
	switch c {
	case '{', '}', '(', ')', '[', ']', '<', '>', '=', ';', ':', ',', '*':
		return true
	}
	return false
}

// IsWord: is a text one of the language's own words?
func IsWord(s string) bool {
	switch s {
	case "bool", "case", "const", "default", "double", "enum", "float", "hyper", "int", "opaque",
		"program", "quadruple", "string", "struct", "switch", "typedef", "union", "unsigned", "version", "void":
		return true
	}
	return false
}

// IsName: may a text be a name?
func IsName(s string) bool {
	if len(s) == 0 || len(s) > api.MaxName || !isLetter(s[0]) {
		return false
	}
	for i := range len(s) {
		if !isRun(s[i]) {
			return false
		}
	}
	return !IsWord(s)
}

// number is what a run that begins with a digit says, perhaps with a '-' ahead of it; false, if it is no number.
func number(text string) (int, bool) {
	if text[0] != '-' {
		digits, base := form(text)
		return reckon(digits, base, greatest)
	}
	digits, base := form(text[1:])
	if base != 10 {
		return 0, false
	}
	n, ok := reckon(digits, base, -least)
	return -n, ok
}

// form is a number's digits and their base. The 0 that says base 8 is one of its digits, so that 0 alone has a digit.
func form(run string) (string, int) {
	switch {
	case run[0] != '0':
		return run, 10
	case len(run) > 1 && run[1] == 'x':
		return run[2:], 16
	}
	return run, 8
}

// reckon stops where a number passes the most that it may be: what is behind could only make it greater, or no number.
func reckon(digits string, base, most int) (int, bool) {
	n := 0
	for i := range len(digits) {
		d := digit(digits[i])
		if d >= base {
			return 0, false
		}
		n = n*base + d
		if n > most {
			return 0, false
		}
	}
	return n, len(digits) > 0
}

func digit(c byte) int {
	switch {
	case isDigit(c):
		return int(c - '0')
	case c >= 'a' && c <= 'f':
		return int(c-'a') + 10
	case c >= 'A' && c <= 'F':
		return int(c-'A') + 10
	}
	return noDigit
}

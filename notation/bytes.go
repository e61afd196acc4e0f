package notation

import (
	"strings"
	"unicode/utf8"
)

const digitsOfSixteen = "0123456789abcdef"

func isDigitOfSixteen(r rune) bool { return strings.ContainsRune(digitsOfSixteen, r) }

// twoDigits are those of a byte, the high one first.
func twoDigits(b byte) string {
	return digitsOfSixteen[b>>4:][:1] + digitsOfSixteen[b&15:][:1]
}

// byteOf is the byte of two digits at the front of a text.
func byteOf(s string) byte {
	high, low := strings.IndexByte(digitsOfSixteen, s[0]), strings.IndexByte(digitsOfSixteen, s[1])
	return byte(high<<4 | low)
}

// printOpaque is the text of opaque bytes.
func printOpaque(s string) string {
	var out strings.Builder
	out.WriteByte('#')
	for i := range len(s) {
		out.WriteString(twoDigits(s[i]))
	}
	return out.String()
}

// parseOpaque are the bytes that digits say which are even in number.
func parseOpaque(digits string) string {
	var out strings.Builder
	for ; digits != ""; digits = digits[2:] {
		out.WriteByte(byteOf(digits))
	}
	return out.String()
}

// quote is the text of a string. Its bytes may be those of no runes, so what is no ASCII is taken byte by byte.
func quote(s string) string {
	var out strings.Builder
	out.WriteByte('"')
	for at, r := range s {
		if r < utf8.RuneSelf {
			out.WriteString(quoteByte(byte(r)))
			continue
		}
		_, width := utf8.DecodeRuneInString(s[at:])
		for i := range width {
			out.WriteString(quoteByte(s[at+i]))
		}
	}
	out.WriteByte('"')
	return out.String()
}

// quoteByte is what stands for a byte in a string's text.
func quoteByte(b byte) string {
	switch {
	case b == '"' || b == '\\':
		return `\` + string(rune(b))
	case 32 <= b && b <= 126:
		return string(rune(b))
	}
	return `\x` + twoDigits(b)
}

// unquoteByte is the byte for which the front of a text stands, and how long that front is; nothing, if it stands for none.
func unquoteByte(s string) (b byte, width int) {
	switch {
	case len(s) >= 1 && s[0] != '\\':
		b, width = s[0], 1
	case len(s) >= 2 && s[1] != 'x':
		b, width = s[1], 2
	case len(s) >= 4:
		b, width = byteOf(s[2:]), 4
	}
	// Each byte is written in one way: so what is written otherwise, or with digits that are none, falls out here.
	if quoteByte(b) != s[:width] {
		return 0, 0
	}
	return b, width
}

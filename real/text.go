package real

import (
	"math/bits"
	"strconv"
	"strings"
)

// A number other than 0 is (1 + fraction / 2^52) times 2^power: the least ones too, whose bits have no such form.
const (
	fractionBits   = 52
	fractionDigits = fractionBits / 4
	leadingOne     = 1 << fractionBits
	exponentBias   = 1023
	leastPower     = -1074
	leastFullPower = -1022 // below it the fraction loses bits at its end
	greatestPower  = 1023
	powerDigits    = 4
)

// printSize is the text of the number that has these bits, which have no sign and are not NaN's.
func printSize(b uint64) string {
	if b == infinite64 {
		return "inf"
	}
	if b == 0 {
		return "0x0p+0"
	}
	fraction, power := unpack(b)
	return "0x1" + printFraction(fraction) + "p" + printPower(power)
}

func printFraction(fraction uint64) string {
	// The leading one keeps the noughts at the front.
	digits := strconv.FormatUint(leadingOne|fraction, 16)[1:]
	digits = strings.TrimRight(digits, "0")
	if digits == "" {
		return ""
	}
	return "." + digits
}

func printPower(power int) string {
	if power < 0 {
		return strconv.Itoa(power)
	}
	return "+" + strconv.Itoa(power)
}

// unpack takes apart bits without a sign, neither 0 nor infinite.
func unpack(b uint64) (fraction uint64, power int) {
	exponent := int(b >> fractionBits)
	fraction = b & (leadingOne - 1)
	if exponent != 0 {
		return fraction, exponent - exponentBias
	}
	shift := fractionBits + 1 - bits.Len64(fraction)
	return fraction << shift & (leadingOne - 1), leastFullPower - shift
}

// pack is unpack's way back; false, if no number is that.
func pack(fraction uint64, power int) (uint64, bool) {
	if power < leastPower || power > greatestPower {
		return 0, false
	}
	if power >= leastFullPower {
		return uint64(power+exponentBias)<<fractionBits | fraction, true
	}
	shift := leastFullPower - power
	whole := leadingOne | fraction
	if bits.TrailingZeros64(whole) < shift {
		return 0, false
	}
	return whole >> shift, true
}

func parseSigned(s string) (uint64, bool) {
	size, negative := strings.CutPrefix(s, "-")
	b, ok := parseSize(size)
	if ok && negative {
		b |= sign64
	}
	return b, ok
}

func parseSize(s string) (uint64, bool) {
	if s == "inf" {
		return infinite64, true
	}
	if s == "0x0p+0" {
		return 0, true
	}
	rest, begins := strings.CutPrefix(s, "0x1")
	front, back, parted := strings.Cut(rest, "p")
	if !begins || !parted {
		return 0, false
	}
	fraction, good := parseFraction(front)
	power, fine := parsePower(back)
	if !good || !fine {
		return 0, false
	}
	return pack(fraction, power)
}

func parseFraction(s string) (uint64, bool) {
	if s == "" {
		return 0, true
	}
	digits, pointed := strings.CutPrefix(s, ".")
	if !pointed || digits == "" || len(digits) > fractionDigits || strings.HasSuffix(digits, "0") {
		return 0, false
	}
	fraction := uint64(0)
	for i := range len(digits) {
		digit, ok := hexDigit(digits[i])
		if !ok {
			return 0, false
		}
		fraction = fraction<<4 | digit
	}
	return fraction << (4 * (fractionDigits - len(digits))), true
}

func hexDigit(c byte) (uint64, bool) {
	switch {
	case '0' <= c && c <= '9':
		return uint64(c - '0'), true
	case 'a' <= c && c <= 'f':
		return uint64(c-'a') + 10, true
	}
	return 0, false
}

func parsePower(s string) (int, bool) {
	if s == "+0" {
		return 0, true
	}
	if len(s) < 2 || len(s) > 1+powerDigits || s[1] == '0' {
		return 0, false
	}
	power := 0
	for i := 1; i < len(s); i++ {
		if s[i] < '0' || s[i] > '9' {
			return 0, false
		}
		power = power*10 + int(s[i]-'0')
	}
	switch s[0] {
	case '+':
		return power, true
	case '-':
		return -power, true
	}
	return 0, false
}

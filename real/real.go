// Package real is layer 1: numbers with a point, their bits and their texts. See shared/doc/01-real.md.
package real

import (
	"math"

	"callbox/api"
)

// The language keeps many NaNs, and these are the bits of the only one that there is here.
const (
	nan32 = 0x7fc00000
	nan64 = 0x7ff8000000000000
)

const (
	sign32     = 1 << 31
	sign64     = 1 << 63
	infinite32 = 0x7f800000
	infinite64 = 0x7ff0000000000000
)

// beyond32 is the bits of 2^128 - 2^103, from which on a number is rounded to the infinite one: what a conversion makes of these the language leaves open.
const beyond32 = 0x47effffff0000000

// Bits32 is the bits of a number.
func Bits32(f float32) uint32 {
	if f != f {
		return nan32
	}
	return math.Float32bits(f)
}

// From32 is the number that has these bits.
func From32(b uint32) (float32, api.Errno) {
	if b&^sign32 > infinite32 && b != nan32 {
		return 0, api.ErrRealBits
	}
	return math.Float32frombits(b), api.OK
}

// Bits64 is the bits of a number.
func Bits64(f float64) uint64 {
	if f != f {
		return nan64
	}
	return math.Float64bits(f)
}

// From64 is the number that has these bits.
func From64(b uint64) (float64, api.Errno) {
	if b&^sign64 > infinite64 && b != nan64 {
		return 0, api.ErrRealBits
	}
	return math.Float64frombits(b), api.OK
}

// Same32: are two numbers the same?
func Same32(a, b float32) bool { return Bits32(a) == Bits32(b) }

// Same64: are two numbers the same?
func Same64(a, b float64) bool { return Bits64(a) == Bits64(b) }

// Narrow is the nearest number of the narrow kind, and whether it is the same.
func Narrow(f float64) (float32, bool) {
	b := Bits64(f)
	if b == nan64 {
		// A conversion would carry over whatever bits this NaN has.
		return math.Float32frombits(nan32), true
	}
	sign := uint32(b>>32) & sign32
	size := b &^ sign64
	if size >= beyond32 {
		return math.Float32frombits(infinite32 | sign), size == infinite64
	}
	narrow := float32(f)
	return narrow, Same64(float64(narrow), f)
}

// Print32 is a number as text.
func Print32(f float32) string { return Print64(float64(f)) }

// Parse32 reads it.
func Parse32(s string) (float32, api.Errno) {
	wide, e := Parse64(s)
	if e != api.OK {
		return 0, e
	}
	narrow, same := Narrow(wide)
	if !same {
		return 0, api.ErrRealForm
	}
	return narrow, api.OK
}

// Print64 is a number as text.
func Print64(f float64) string {
	b := Bits64(f)
	if b == nan64 {
		return "nan"
	}
	if b&sign64 != 0 {
		return "-" + printSize(b&^sign64)
	}
	return printSize(b)
}

// Parse64 reads it.
func Parse64(s string) (float64, api.Errno) {
	if s == "nan" {
		return math.Float64frombits(nan64), api.OK
	}
	b, ok := parseSigned(s)
	if !ok {
		return 0, api.ErrRealForm
	}
	return math.Float64frombits(b), api.OK
}

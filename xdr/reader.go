package xdr

import (
	"strings"

	"callbox/api"
	"callbox/real"
)

// Reader reads them.
type Reader struct {
	left    string
	trouble trouble
}

// NewReader is one at the beginning of a text.
func NewReader(s string) *Reader { return &Reader{left: s} }

// Int reads a whole number of 32 bits.
func (r *Reader) Int() int {
	n, wrong := frontWord(r.left)
	if !r.take(wordBytes, wrong) {
		return 0
	}
	return int(int32(n))
}

// Uint reads one that is not below 0.
func (r *Reader) Uint() int {
	n, wrong := frontWord(r.left)
	if !r.take(wordBytes, wrong) {
		return 0
	}
	return int(n)
}

// Hyper reads a whole number of 64 bits.
func (r *Reader) Hyper() int {
	n, wrong := frontHyper(r.left)
	if !r.take(hyperBytes, wrong) {
		return 0
	}
	return int(n)
}

// Bool reads false or true.
func (r *Reader) Bool() bool {
	n, wrong := frontWord(r.left)
	if wrong == nil && n > 1 {
		wrong = fault{api.ErrXdrBool}
	}
	return r.take(wordBytes, wrong) && n == 1
}

// Float reads a number of the narrow kind.
func (r *Reader) Float() float32 {
	b, wrong := frontWord(r.left)
	f, e := real.From32(b)
	if wrong == nil && e != api.OK {
		wrong = fault{api.ErrXdrReal}
	}
	if !r.take(wordBytes, wrong) {
		return 0
	}
	return f
}

// Double reads a number of the wide kind.
func (r *Reader) Double() float64 {
	b, wrong := frontHyper(r.left)
	f, e := real.From64(b)
	if wrong == nil && e != api.OK {
		wrong = fault{api.ErrXdrReal}
	}
	if !r.take(hyperBytes, wrong) {
		return 0
	}
	return f
}

// Fixed reads just so many bytes.
func (r *Reader) Fixed(n int) string {
	s, wrong := frontText(r.left, n)
	if !r.take(n+len(padding(n)), wrong) {
		return ""
	}
	return strings.Clone(s)
}

// Opaque reads at most so many bytes, how many standing ahead of them.
func (r *Reader) Opaque(most int) string {
	n, wrong := frontCount(r.left, most)
	s := ""
	if wrong == nil {
		s, wrong = frontText(r.left[wordBytes:], n)
	}
	if !r.take(wordBytes+n+len(padding(n)), wrong) {
		return ""
	}
	return strings.Clone(s)
}

// Count reads how many things follow, at most so many.
func (r *Reader) Count(most int) int {
	n, wrong := frontCount(r.left, most)
	if !r.take(wordBytes, wrong) {
		return 0
	}
	return n
}

// Rest reads all that is left.
func (r *Reader) Rest() string {
	s := r.left
	if !r.take(len(s), nil) {
		return ""
	}
	return strings.Clone(s)
}

// Left is how many bytes are left.
func (r *Reader) Left() int { return len(r.left) }

// Fail notes that something is wrong, if nothing was.
func (r *Reader) Fail(e api.Errno) { r.trouble.note(faultOf(e)) }

// Wrong is what was wrong first.
func (r *Reader) Wrong() api.Errno { return r.trouble.number() }

// Done is what was wrong first, or that bytes are left.
func (r *Reader) Done() api.Errno {
	if !r.trouble.any() && r.left != "" {
		return api.ErrXdrMore
	}
	return r.trouble.number()
}

// take is the end of every reading: the bytes are taken only here, and only if nothing is wrong or ever was.
func (r *Reader) take(n int, wrong error) bool {
	r.trouble.note(wrong)
	if r.trouble.any() {
		return false
	}
	r.left = r.left[n:]
	return true
}

func frontWord(s string) (uint32, error) {
	if len(s) < wordBytes {
		return 0, fault{api.ErrXdrShort}
	}
	return uint32(s[0])<<24 | uint32(s[1])<<16 | uint32(s[2])<<8 | uint32(s[3]), nil
}

func frontHyper(s string) (uint64, error) {
	if len(s) < hyperBytes {
		return 0, fault{api.ErrXdrShort}
	}
	high, _ := frontWord(s)
	low, _ := frontWord(s[wordBytes:])
	return uint64(high)<<32 | uint64(low), nil
}

func frontCount(s string, most int) (int, error) {
	if !isWord(most) {
		return 0, fault{api.ErrXdrRange}
	}
	word, wrong := frontWord(s)
	if wrong != nil {
		return 0, wrong
	}
	if int(word) > most {
		return 0, fault{api.ErrXdrLong}
	}
	return int(word), nil
}

// frontText is n bytes, behind which their padding must stand.
func frontText(s string, n int) (string, error) {
	if !isWord(n) {
		return "", fault{api.ErrXdrRange}
	}
	end := n + len(padding(n))
	if len(s) < end {
		return "", fault{api.ErrXdrShort}
	}
	if s[n:end] != padding(n) {
		return "", fault{api.ErrXdrPad}
	}
	return s[:n], nil
}

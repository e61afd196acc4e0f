package xdr

import (
	"callbox/api"
	"callbox/real"
)

// Writer lays things down, at most so many bytes.
type Writer struct {
	most    int
	laid    []byte
	trouble trouble
}

// NewWriter is one that has laid down nothing.
func NewWriter(most int) *Writer { return &Writer{most: max(most, 0)} }

// Int lays down a whole number of 32 bits.
func (w *Writer) Int(n int) {
	if !isInt(n) {
		w.Fail(api.ErrXdrRange)
		return
	}
	w.lay(fourBytes(uint32(n)))
}

// Uint lays down one that is not below 0.
func (w *Writer) Uint(n int) {
	if !isWord(n) {
		w.Fail(api.ErrXdrRange)
		return
	}
	w.lay(fourBytes(uint32(n)))
}

// Hyper lays down a whole number of 64 bits.
func (w *Writer) Hyper(n int) { w.lay(eightBytes(uint64(n))) }

// Bool lays down false or true.
func (w *Writer) Bool(b bool) {
	if b {
		w.Uint(1)
		return
	}
	w.Uint(0)
}

// Float lays down a number of the narrow kind.
func (w *Writer) Float(f float32) { w.lay(fourBytes(real.Bits32(f))) }

// Double lays down a number of the wide kind.
func (w *Writer) Double(f float64) { w.lay(eightBytes(real.Bits64(f))) }

// Fixed lays down just so many bytes.
func (w *Writer) Fixed(n int, s string) {
	switch {
	case !isWord(n):
		w.Fail(api.ErrXdrRange)
	case len(s) != n:
		w.Fail(api.ErrXdrLong)
	default:
		w.lay(s, padding(n))
	}
}

// Opaque lays down at most so many bytes, and how many ahead of them.
func (w *Writer) Opaque(most int, s string) {
	switch {
	case !isWord(most):
		w.Fail(api.ErrXdrRange)
	case len(s) > most:
		w.Fail(api.ErrXdrLong)
	default:
		w.lay(fourBytes(uint32(len(s))), s, padding(len(s)))
	}
}

// Count lays down how many things follow, at most so many.
func (w *Writer) Count(most, n int) {
	switch {
	case !isWord(most) || n < 0:
		w.Fail(api.ErrXdrRange)
	case n > most:
		w.Fail(api.ErrXdrLong)
	default:
		w.lay(fourBytes(uint32(n)))
	}
}

// Raw lays down bytes as they are, a multiple of four of them.
func (w *Writer) Raw(s string) {
	if len(s)%wordBytes != 0 {
		w.Fail(api.ErrArg)
		return
	}
	w.lay(s)
}

// Len is how many bytes were laid down.
func (w *Writer) Len() int { return len(w.laid) }

// Fail notes that something is wrong, if nothing was.
func (w *Writer) Fail(e api.Errno) { w.trouble.note(faultOf(e)) }

// Done is what was laid down, or what was wrong first.
func (w *Writer) Done() (string, api.Errno) {
	if w.trouble.any() {
		return "", w.trouble.number()
	}
	return string(w.laid), api.OK
}

// lay takes the parts of one call together: where there is no room for all of them, none is laid down.
func (w *Writer) lay(parts ...string) {
	size := 0
	for _, part := range parts {
		size += len(part)
	}
	if size > w.most-len(w.laid) {
		w.Fail(api.ErrXdrLong)
	}
	if w.trouble.any() {
		return
	}
	for _, part := range parts {
		w.laid = append(w.laid, part...)
	}
}

func fourBytes(n uint32) string {
	return string([]byte{byte(n >> 24), byte(n >> 16), byte(n >> 8), byte(n)})
}

func eightBytes(n uint64) string { return fourBytes(uint32(n>>32)) + fourBytes(uint32(n)) }

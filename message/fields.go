package message

import (
	"callbox/api"
	"callbox/xdr"
)

// field is a field of a message: where it lies, and by which calls of layer 2 it is laid down and read.
type field interface {
	lay(w *xdr.Writer)
	read(r *xdr.Reader)
	isEmpty() bool
}

// plain is a field of which layer 2 refuses just what may not be.
type plain[T comparable] struct {
	at   *T
	put  func(w *xdr.Writer, v T)
	take func(r *xdr.Reader) T
}

func (f plain[T]) lay(w *xdr.Writer)  { f.put(w, *f.at) }
func (f plain[T]) read(r *xdr.Reader) { *f.at = f.take(r) }
func (f plain[T]) isEmpty() bool      { return isZero(*f.at) }

// bounded is a field of which layer 2 refuses just what may not be, once it is told how much may be.
type bounded[T comparable] struct {
	at   *T
	most int
	put  func(w *xdr.Writer, most int, v T)
	take func(r *xdr.Reader, most int) T
}

func (f bounded[T]) lay(w *xdr.Writer)  { f.put(w, f.most, *f.at) }
func (f bounded[T]) read(r *xdr.Reader) { *f.at = f.take(r, f.most) }
func (f bounded[T]) isEmpty() bool      { return isZero(*f.at) }

func isZero[T comparable](v T) bool {
	var zero T
	return v == zero
}

// sign is a number that is the same in all messages of a kind, and so lies nowhere.
type sign struct {
	n    int
	put  func(w *xdr.Writer, n int)
	take func(r *xdr.Reader) int
}

func (f sign) lay(w *xdr.Writer) { f.put(w, f.n) }

func (f sign) read(r *xdr.Reader) {
	if f.take(r) != f.n {
		r.Fail(api.ErrMessageForm)
	}
}

func (f sign) isEmpty() bool { return true }

// tail is what stands as it is at the end of a message. Layer 2 knows no bound of it, so its length is asked here, and ahead of any copy.
type tail struct {
	at   *string
	put  func(w *xdr.Writer, s string)
	take func(r *xdr.Reader) string
}

func (f tail) lay(w *xdr.Writer) {
	if !tailMayHave(len(*f.at)) {
		w.Fail(api.ErrMessageField)
	}
	f.put(w, *f.at)
}

func (f tail) read(r *xdr.Reader) {
	if !tailMayHave(r.Left()) {
		r.Fail(api.ErrMessageForm)
	}
	*f.at = f.take(r)
}

func (f tail) isEmpty() bool { return isZero(*f.at) }

func tailMayHave(n int) bool { return n <= api.MaxBytes && n%4 == 0 }

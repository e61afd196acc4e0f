package xdr

import (
	"errors"
	"testing"

	"callbox/api"
)

// wrapped is an error around another one.
type wrapped struct{ error }

func (w wrapped) Unwrap() error { return w.error }

// Ways: what is wrong is found by errors.As, also within another error; other errors have no number.
func TestFaultIsFound(t *testing.T) {
	for _, c := range []struct {
		first error
		want  api.Errno
	}{
		{nil, api.OK},
		{faultOf(api.OK), api.OK},
		{faultOf(api.ErrXdrPad), api.ErrXdrPad},
		{wrapped{fault{api.ErrXdrLong}}, api.ErrXdrLong},
		{errors.New("another"), api.OK},
	} {
		kept := trouble{c.first}
		if got := kept.number(); got != c.want {
			t.Errorf("%v: %d", c.first, got)
		}
	}
	if text := faultOf(api.ErrXdrLong).Error(); text != "xdr: error 23" {
		t.Error(text)
	}
}

package message

import (
	"callbox/api"
	"callbox/xdr"
)

// The second number of a message.
const (
	callSign  = 0
	replySign = 1
)

// The greatest number of each kind that a reply may have.
const (
	mostReject = api.AuthError
	mostAccept = api.SystemErr
	mostWhy    = 14
)

type (
	word  = plain[int]
	flag  = plain[bool]
	small = bounded[int] // a word with a bound of its own
	body  = bounded[string]
)

// row is a field of a message that stands in its bytes, or does not belong to it.
type row struct {
	stands bool
	field  field
}

func callHead(c *api.Call) []row {
	return []row{
		{true, word{&c.Xid, (*xdr.Writer).Uint, (*xdr.Reader).Uint}},
		{true, sign{callSign, (*xdr.Writer).Uint, (*xdr.Reader).Uint}},
		{true, word{&c.Rpc, (*xdr.Writer).Uint, (*xdr.Reader).Uint}},
	}
}

func callBody(c *api.Call) []row {
	return []row{
		{true, word{&c.Prog, (*xdr.Writer).Uint, (*xdr.Reader).Uint}},
		{true, word{&c.Vers, (*xdr.Writer).Uint, (*xdr.Reader).Uint}},
		{true, word{&c.Proc, (*xdr.Writer).Uint, (*xdr.Reader).Uint}},
		{true, word{&c.Cred.Flavor, (*xdr.Writer).Uint, (*xdr.Reader).Uint}},
		{true, body{&c.Cred.Body, api.MaxBody, (*xdr.Writer).Opaque, (*xdr.Reader).Opaque}},
		{true, word{&c.Verf.Flavor, (*xdr.Writer).Uint, (*xdr.Reader).Uint}},
		{true, body{&c.Verf.Body, api.MaxBody, (*xdr.Writer).Opaque, (*xdr.Reader).Opaque}},
		{true, tail{&c.Args, (*xdr.Writer).Raw, (*xdr.Reader).Rest}},
	}
}

func replyHead(r *api.Reply) []row {
	return []row{
		{true, word{&r.Xid, (*xdr.Writer).Uint, (*xdr.Reader).Uint}},
		{true, sign{replySign, (*xdr.Writer).Uint, (*xdr.Reader).Uint}},
		{true, flag{&r.Denied, (*xdr.Writer).Bool, (*xdr.Reader).Bool}},
	}
}

func replyBody(r *api.Reply) []row {
	return []row{
		{r.Denied, small{&r.Reject, mostReject, (*xdr.Writer).Count, (*xdr.Reader).Count}},
		{!r.Denied, word{&r.Verf.Flavor, (*xdr.Writer).Uint, (*xdr.Reader).Uint}},
		{!r.Denied, body{&r.Verf.Body, api.MaxBody, (*xdr.Writer).Opaque, (*xdr.Reader).Opaque}},
		{!r.Denied, small{&r.Accept, mostAccept, (*xdr.Writer).Count, (*xdr.Reader).Count}},
	}
}

func replyEnd(r *api.Reply) []row {
	success := !r.Denied && r.Accept == api.Success
	authError := r.Denied && r.Reject == api.AuthError
	mismatch := r.Denied && r.Reject == api.RpcMismatch || !r.Denied && r.Accept == api.ProgMismatch
	return []row{
		{mismatch, word{&r.Low, (*xdr.Writer).Uint, (*xdr.Reader).Uint}},
		{mismatch, word{&r.High, (*xdr.Writer).Uint, (*xdr.Reader).Uint}},
		{authError, small{&r.Why, mostWhy, (*xdr.Writer).Count, (*xdr.Reader).Count}},
		{success, tail{&r.Results, (*xdr.Writer).Raw, (*xdr.Reader).Rest}},
	}
}

// layRows lays down what stands, and refuses what does not belong there.
func layRows(w *xdr.Writer, rows []row) {
	for _, x := range rows {
		switch {
		case x.stands:
			x.field.lay(w)
		case !x.field.isEmpty():
			w.Fail(api.ErrMessageField)
		}
	}
}

func readRows(r *xdr.Reader, rows []row) {
	for _, x := range rows {
		if x.stands {
			x.field.read(r)
		}
	}
}

package server

import (
	"callbox/api"
	"callbox/cred"
	"callbox/message"
)

// rpcVersion is the version of calls that is spoken here.
const rpcVersion = 2

// judge is the reply to a call of which nothing is kept, and whether it is such a one; else the mark by which the call is known.
func (s *Server) judge(c api.Call) (api.Mark, api.Reply, bool) {
	if c.Rpc != rpcVersion {
		return answered(api.Reply{Xid: c.Xid, Denied: true, Reject: api.RpcMismatch, Low: rpcVersion, High: rpcVersion})
	}
	mark, is, why := cred.Judge(c)
	if why != api.AuthOK {
		return answered(authError(c, why))
	}
	if found, low, high := s.Find(c.Prog, c.Vers, c.Proc); found != api.Success {
		return answered(api.Reply{Xid: c.Xid, Accept: found, Low: low, High: high})
	}
	// Procedure 0 does nothing, so that it may be done as often as it comes, for anybody.
	if c.Proc == 0 {
		accept, _ := s.Run(c.Prog, c.Vers, c.Proc, c.Args)
		return answered(api.Reply{Xid: c.Xid, Accept: accept})
	}
	if !is {
		return answered(authError(c, api.TooWeak))
	}
	return mark, api.Reply{}, false
}

func answered(r api.Reply) (api.Mark, api.Reply, bool) { return api.Mark{}, r, true }

// authError refuses a call for its credential.
func authError(c api.Call, why int) api.Reply {
	return api.Reply{Xid: c.Xid, Denied: true, Reject: api.AuthError, Why: why}
}

// textOf is a reply's bytes; there are some of each reply that is made here.
func textOf(r api.Reply) string {
	text, _ := message.PrintReply(r)
	return text
}

package cred

import "callbox/api"

// Judge is why a call's credential and verifier are refused; if they are not: the mark, and whether there is one.
func Judge(c api.Call) (api.Mark, bool, int) {
	m, is, why := judgeCred(c.Cred, c.Xid)
	if why == api.AuthOK && !isNobody(c.Verf) {
		why = api.BadVerf
	}
	if why != api.AuthOK {
		return api.Mark{}, false, why
	}
	return m, is, api.AuthOK
}

// judgeCred judges the credential alone.
func judgeCred(a api.Auth, xid int) (api.Mark, bool, int) {
	switch a.Flavor {
	case api.AuthNone:
		return api.Mark{}, false, badUnless(isNobody(a))
	case api.AuthSys:
		_, e := ParseSys(a)
		return api.Mark{}, false, badUnless(e == api.OK)
	case api.AuthMark:
		m, e := ParseMark(a)
		return m, true, badUnless(e == api.OK && m.Sequence == xid && m.Water <= m.Sequence)
	}
	return api.Mark{}, false, api.RejectedCred
}

func isNobody(a api.Auth) bool { return a.Flavor == api.AuthNone && a.Body == "" }

func badUnless(good bool) int {
	if good {
		return api.AuthOK
	}
	return api.BadCred
}

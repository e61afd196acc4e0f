package cred_test

import (
	"encoding/binary"

	"callbox/api"
)

// The model: the chapter said once more, with nothing of layer 2. A body is read by being guessed and laid down again: it is that of a thing just if the thing's body is it.

func modelSys(s api.Sys) string {
	b := binary.BigEndian.AppendUint32(nil, uint32(s.Stamp))
	b = binary.BigEndian.AppendUint32(b, uint32(len(s.Machine)))
	b = append(b, s.Machine...)
	for len(b)%4 != 0 {
		b = append(b, 0)
	}
	for _, n := range append([]int{s.User, s.Group, len(s.Groups)}, s.Groups...) {
		b = binary.BigEndian.AppendUint32(b, uint32(n))
	}
	return string(b)
}

func modelMark(m api.Mark) string {
	var b []byte
	for _, n := range []int{m.Instance, m.Sequence, m.Water} {
		b = binary.BigEndian.AppendUint64(b, uint64(n))
	}
	return string(b) + modelSys(m.Sys)
}

func modelSysMayBe(s api.Sys) bool {
	for _, n := range append([]int{s.Stamp, s.User, s.Group}, s.Groups...) {
		if n != int(uint32(n)) {
			return false
		}
	}
	return len(s.Machine) < 256 && len(s.Groups) < 17
}

func modelMarkMayBe(m api.Mark) bool {
	word := func(n int) bool { return n != 0 && n == int(uint32(n)) }
	return m.Instance > 0 && m.Instance-1 < 1<<62 && word(m.Sequence) && word(m.Water) && modelSysMayBe(m.Sys)
}

// wordAt is the word there, of noughts behind the end.
func wordAt(body string, at int) int {
	b := make([]byte, 4)
	if at >= 0 && at < len(body) {
		copy(b, body[at:])
	}
	return int(binary.BigEndian.Uint32(b))
}

func guessSys(body string) api.Sys {
	s := api.Sys{Stamp: wordAt(body, 0)}
	n := min(wordAt(body, 4), max(len(body)-8, 0))
	if n > 0 {
		s.Machine = body[8 : 8+n]
	}
	at := 8 + (n+3)/4*4
	s.User, s.Group = wordAt(body, at), wordAt(body, at+4)
	for i := range min(wordAt(body, at+8), 17) {
		s.Groups = append(s.Groups, wordAt(body, at+12+4*i))
	}
	return s
}

func guessMark(body string) api.Mark {
	hyper := func(at int) int { return wordAt(body, at)<<32 | wordAt(body, at+4) }
	m := api.Mark{Instance: hyper(0), Sequence: hyper(8), Water: hyper(16)}
	m.Sys = guessSys(body[min(24, len(body)):])
	return m
}

func modelParseSys(a api.Auth) (api.Sys, api.Errno) {
	s := guessSys(a.Body)
	switch {
	case a.Flavor != api.AuthSys:
		return api.Sys{}, api.ErrCredFlavor
	case modelSys(s) != a.Body || !modelSysMayBe(s):
		return api.Sys{}, api.ErrCredForm
	}
	return s, api.OK
}

func modelParseMark(a api.Auth) (api.Mark, api.Errno) {
	m := guessMark(a.Body)
	switch {
	case a.Flavor != api.AuthMark:
		return api.Mark{}, api.ErrCredFlavor
	case modelMark(m) != a.Body || !modelMarkMayBe(m):
		return api.Mark{}, api.ErrCredForm
	}
	return m, api.OK
}

// reason is one why a call may be refused.
type reason struct {
	holds bool
	why   int
}

// modelJudge asks all reasons, and tells the first that holds.
func modelJudge(c api.Call) (api.Mark, bool, int) {
	_, noSys := modelParseSys(c.Cred)
	m, noMark := modelParseMark(c.Cred)
	flavor := c.Cred.Flavor
	for _, r := range []reason{
		{flavor == 0 && len(c.Cred.Body) > 0, 1},
		{flavor == 1 && noSys != 0, 1},
		{flavor == 1296126539 && noMark != 0, 1},
		{flavor == 1296126539 && c.Xid != m.Sequence, 1},
		{flavor == 1296126539 && m.Water > m.Sequence, 1},
		{flavor != 0 && flavor != 1 && flavor != 1296126539, 2},
		{c.Verf.Flavor != 0, 3},
		{len(c.Verf.Body) > 0, 3},
	} {
		if r.holds {
			return api.Mark{}, false, r.why
		}
	}
	return m, flavor == 1296126539, 0
}

package cred_test

import (
	"math"
	"math/rand"

	"callbox/api"
)

func pick[T any](r *rand.Rand, from ...T) T { return from[r.Intn(len(from))] }

func makeWord(r *rand.Rand) int {
	return pick(r, 0, 1, 1<<31-1, 1<<31, 1<<32-1, r.Intn(10), r.Intn(1<<32))
}

func makeBytes(r *rand.Rand, n int) string {
	b := make([]byte, n)
	r.Read(b)
	return string(b)
}

// makeSys is one that may be.
func makeSys(r *rand.Rand) api.Sys {
	s := api.Sys{Stamp: makeWord(r), User: makeWord(r), Group: makeWord(r)}
	s.Machine = makeBytes(r, pick(r, 0, 1, 2, 3, 4, 5, 252, 253, 254, 255, r.Intn(256)))
	for range pick(r, 0, 1, 2, 15, 16, r.Intn(17)) {
		s.Groups = append(s.Groups, makeWord(r))
	}
	return s
}

func makeSequence(r *rand.Rand) int {
	return pick(r, 1, 2, 3, 1<<32-2, 1<<32-1, 1+r.Intn(10), 1+r.Intn(1<<32-1))
}

// makeMark is one that may be.
func makeMark(r *rand.Rand) api.Mark {
	m := api.Mark{Instance: pick(r, 1, 2, 1<<62, 1<<62-1, 1+r.Intn(1<<62)), Sequence: makeSequence(r), Sys: makeSys(r)}
	m.Water = pick(r, 1, m.Sequence, m.Sequence, max(m.Sequence-1, 1), min(m.Sequence+1, 1<<32-1), makeSequence(r))
	return m
}

func wrongNumber(r *rand.Rand) int {
	return pick(r, 0, -1, 1<<32, 1<<32+1, 1<<62+1, math.MaxInt, math.MinInt, 1<<32-1)
}

// spoilSys makes a field another one, mostly one that may not be.
func spoilSys(r *rand.Rand, s api.Sys) api.Sys {
	switch r.Intn(6) {
	case 0:
		s.Stamp = wrongNumber(r)
	case 1:
		s.User = wrongNumber(r)
	case 2:
		s.Group = wrongNumber(r)
	case 3:
		s.Machine = makeBytes(r, pick(r, 255, 256, 257, 300, 1000))
	case 4:
		s.Groups = make([]int, pick(r, 16, 17, 18, 100))
	case 5:
		s.Groups = append([]int{wrongNumber(r)}, s.Groups...)
	}
	return s
}

func spoilMark(r *rand.Rand, m api.Mark) api.Mark {
	switch r.Intn(4) {
	case 0:
		m.Instance = wrongNumber(r)
	case 1:
		m.Sequence = wrongNumber(r)
	case 2:
		m.Water = wrongNumber(r)
	case 3:
		m.Sys = spoilSys(r, m.Sys)
	}
	return m
}

// spoilBody cuts it, lengthens it, or bends a byte of it; the bytes of its numbers more often than those of names.
func spoilBody(r *rand.Rand, body string) string {
	b := []byte(body)
	switch r.Intn(6) {
	case 0:
		return body[:r.Intn(len(body)+1)]
	case 1:
		return body + pick(r, "\x00", "\x00\x00\x00\x00", "\x00\x00\x00\x01", "x")
	case 2:
		return body[min(len(body), 4*r.Intn(8)):]
	case 3:
		if len(b) > 0 {
			b[r.Intn(len(b))] ^= 1 << r.Intn(8)
		}
	case 4:
		if len(b) > 0 {
			b[r.Intn(min(len(b), 32))] = pick[byte](r, 0, 1, 2, 4, 16, 17, 128, 255)
		}
	case 5:
		if len(b) > 0 {
			b[len(b)-1-r.Intn(min(len(b), 24))] = pick[byte](r, 0, 1, 2, 4, 16, 17, 128, 255)
		}
	}
	return string(b)
}

// makeAuth is a credential, of those that may be and of others.
func makeAuth(r *rand.Rand) api.Auth {
	var a api.Auth
	switch r.Intn(4) {
	case 0:
		a = api.Auth{Body: pick(r, "", "", "", "x")}
	case 1:
		a = sysAuth(modelSys(makeSys(r)))
	case 2:
		a = markAuth(modelMark(makeMark(r)))
	case 3:
		a = pick(r, sysAuth, markAuth)(makeBytes(r, 4*r.Intn(20)))
	}
	if r.Intn(3) == 0 {
		a.Body = spoilBody(r, a.Body)
	}
	if r.Intn(8) == 0 {
		a.Flavor = pick(r, append(otherFlavors(), 0, 1, 1296126539)...)
	}
	return a
}

// makeCall has an Xid that is often the one of its credential, and often no verifier.
func makeCall(r *rand.Rand) api.Call {
	c := api.Call{Rpc: r.Intn(3), Prog: wrongNumber(r), Proc: r.Intn(3), Args: makeBytes(r, r.Intn(5)), Cred: makeAuth(r)}
	c.Xid = guessMark(c.Cred.Body).Sequence
	if r.Intn(3) == 0 {
		c.Xid = pick(r, c.Xid+1, c.Xid-1, c.Xid+1<<32, wrongNumber(r), makeWord(r))
	}
	if r.Intn(4) == 0 {
		c.Verf = makeAuth(r)
	}
	return c
}

package message_test

import (
	"math"
	"math/rand"
	"strings"

	"callbox/api"
)

func pick[T any](r *rand.Rand, from ...T) T { return from[r.Intn(len(from))] }

func makeWord(r *rand.Rand) int {
	return pick(r, 0, 1, 2, 1<<31-1, 1<<31, 1<<32-1, r.Intn(10), r.Intn(1<<32))
}

// makeBytes is of new memory, also if it is one byte, of which Go may have the texts lying there.
func makeBytes(r *rand.Rand, n int) string {
	b := make([]byte, n)
	r.Read(b)
	return strings.Clone(string(b))
}

func makeTail(r *rand.Rand) string {
	return makeBytes(r, 4*pick(r, 0, 0, 1, 2, 249, 250, r.Intn(10), r.Intn(251)))
}

// makeAuth is one that may be.
func makeAuth(r *rand.Rand) api.Auth {
	if r.Intn(3) == 0 {
		return api.Auth{}
	}
	return api.Auth{Flavor: makeWord(r), Body: makeBytes(r, pick(r, 0, 1, 2, 3, 4, 5, 397, 398, 399, 400, r.Intn(20), r.Intn(401)))}
}

// makeCall is one that may be.
func makeCall(r *rand.Rand) api.Call {
	return api.Call{Xid: makeWord(r), Rpc: 2, Prog: makeWord(r), Vers: makeWord(r), Proc: makeWord(r), Cred: makeAuth(r), Verf: makeAuth(r), Args: makeTail(r)}
}

// makeReply is one that may be, of all shapes.
func makeReply(r *rand.Rand) api.Reply {
	switch shape := r.Intn(9); shape {
	case 0:
		return api.Reply{Xid: makeWord(r), Denied: true, Low: makeWord(r), High: makeWord(r)}
	case 1:
		return api.Reply{Xid: makeWord(r), Denied: true, Reject: 1, Why: r.Intn(15)}
	case 2, 3:
		return api.Reply{Xid: makeWord(r), Verf: makeAuth(r), Results: makeTail(r)}
	case 4:
		return api.Reply{Xid: makeWord(r), Verf: makeAuth(r), Accept: 2, Low: makeWord(r), High: makeWord(r)}
	default:
		return api.Reply{Xid: makeWord(r), Verf: makeAuth(r), Accept: pick(r, 1, 3, 4, 5)}
	}
}

func wrongNumber(r *rand.Rand) int {
	return pick(r, 0, 1, 2, 3, 5, 6, 14, 15, -1, 1<<32, 1<<32+1, math.MaxInt, math.MinInt, 1<<32-1)
}

func spoilAuth(r *rand.Rand, a *api.Auth) {
	if r.Intn(2) == 0 {
		a.Flavor = wrongNumber(r)
		return
	}
	a.Body = makeBytes(r, pick(r, 0, 1, 400, 401, 402, 404, 500))
}

func wrongTail(r *rand.Rand) string {
	return makeBytes(r, pick(r, 0, 1, 2, 3, 4, 5, 998, 999, 1000, 1001, 1004, 2000))
}

// spoilCall makes a field another one, mostly one that may not be.
func spoilCall(r *rand.Rand, c api.Call) api.Call {
	switch r.Intn(4) {
	case 0:
		*pick(r, &c.Xid, &c.Rpc, &c.Prog, &c.Vers, &c.Proc) = wrongNumber(r)
	case 1:
		spoilAuth(r, &c.Cred)
	case 2:
		spoilAuth(r, &c.Verf)
	case 3:
		c.Args = wrongTail(r)
	}
	return c
}

func spoilReply(r *rand.Rand, x api.Reply) api.Reply {
	switch r.Intn(6) {
	case 0:
		x.Denied = !x.Denied
	case 1:
		spoilAuth(r, &x.Verf)
	case 2:
		x.Results = wrongTail(r)
	default:
		*pick(r, &x.Xid, &x.Accept, &x.Reject, &x.Why, &x.Low, &x.High) = wrongNumber(r)
	}
	return x
}

// makeText is a text: a call's, a reply's, another version's, or words of any kind.
func makeText(r *rand.Rand) string {
	switch r.Intn(5) {
	case 0, 1:
		return modelCall(makeCall(r))
	case 2, 3:
		text, _ := modelReply(makeReply(r))
		return text
	}
	text := words(makeWord(r), r.Intn(2), pick(r, 0, 1, 2, 3, makeWord(r)))
	for range r.Intn(8) {
		text += words(pick(r, 0, 0, 1, 2, r.Intn(20), makeWord(r)))
	}
	return text + makeBytes(r, pick(r, 0, 0, 0, 1, 2, 3, 8))
}

// spoilText cuts it, lengthens it, or bends a byte of it; the bytes of its head more often than those of bodies.
func spoilText(r *rand.Rand, text string) string {
	b := []byte(text)
	switch r.Intn(6) {
	case 0:
		return text[:r.Intn(len(text)+1)]
	case 1:
		return text + pick(r, "\x00", "\x00\x00\x00\x00", "\x00\x00\x00\x01", "x")
	case 2:
		at := min(len(text), 4*r.Intn(10))
		return text[:at] + words(pick(r, 0, 1, 2, 5, 6, 14, 15, 400, 401, makeWord(r))) + text[min(len(text), at+4):]
	case 3:
		b[r.Intn(len(b))] ^= 1 << r.Intn(8)
	case 4:
		b[r.Intn(min(len(b), 48))] = pick[byte](r, 0, 1, 2, 4, 5, 6, 14, 15, 128, 255)
	case 5:
		b[len(b)-1-r.Intn(min(len(b), 24))] = pick[byte](r, 0, 1, 2, 4, 5, 6, 14, 15, 128, 255)
	}
	return string(b)
}

package message_test

import (
	"math"
	"strings"
	"testing"

	"callbox/api"
	"callbox/message"
)

// bounds are numbers at the bounds of a word.
func bounds() []int { return []int{0, 1, 255, 256, 1<<31 - 1, 1 << 31, 1<<32 - 2, 1<<32 - 1} }

// noWords are numbers one beyond the bounds of a word, and further.
func noWords() []int {
	return []int{-1, 1 << 32, math.MinInt, math.MaxInt, -1 << 32, 1<<32 + 1, 1<<32 + 2, -1<<31 - 1, 1 << 62}
}

// every is n bytes, of all kinds, the last one no nought.
func every(n int) string {
	b := make([]byte, n)
	for i := range b {
		b[i] = byte(n - i)
	}
	return string(b)
}

// TestCallWords is M1 and M2: each word of a call at its bounds, and beyond.
func TestCallWords(t *testing.T) {
	for name, at := range map[string]func(c *api.Call) *int{
		"xid":  func(c *api.Call) *int { return &c.Xid },
		"prog": func(c *api.Call) *int { return &c.Prog },
		"vers": func(c *api.Call) *int { return &c.Vers },
		"proc": func(c *api.Call) *int { return &c.Proc },
		"cred": func(c *api.Call) *int { return &c.Cred.Flavor },
		"verf": func(c *api.Call) *int { return &c.Verf.Flavor },
	} {
		for _, n := range bounds() {
			c := exampleCall()
			*at(&c) = n
			wantCall(t, c, modelCall(c))
		}
		for _, n := range noWords() {
			c := exampleCall()
			*at(&c) = n
			wantNoCall(t, name, c)
		}
	}
}

// TestRpc is M1 and M2: no other version is printed, each is told.
func TestRpc(t *testing.T) {
	for _, n := range append(bounds(), noWords()...) {
		c := exampleCall()
		c.Rpc = n
		wantNoCall(t, "rpc", c)
		wantNoCall(t, "rpc alone", api.Call{Xid: 1, Rpc: n})
	}
	for _, n := range append(bounds(), 3) {
		for _, behind := range []string{"", "x", "\x00\x00\x00\x00", exampleCallText()[12:], exampleCallText()[12:] + "x", strings.Repeat("z", 3000)} {
			wantOther(t, 9, n, words(9, 0, n)+behind)
			wantOther(t, 1<<32-1, n, words(1<<32-1, 0, n)+behind)
		}
	}
}

// TestReplyWords is M1 and M3: Xid, Low, High and the verifier's flavor at their bounds, and beyond, in all shapes that have them.
func TestReplyWords(t *testing.T) {
	for i, x := range exampleReplies() {
		fields := []func(r *api.Reply) *int{func(r *api.Reply) *int { return &r.Xid }}
		if i > 1 {
			fields = append(fields, func(r *api.Reply) *int { return &r.Verf.Flavor })
		}
		if i == 0 || i == 4 {
			fields = append(fields, func(r *api.Reply) *int { return &r.Low }, func(r *api.Reply) *int { return &r.High })
		}
		for _, at := range fields {
			for _, n := range bounds() {
				r := x.reply
				*at(&r) = n
				text, _ := modelReply(r)
				wantReply(t, r, text)
			}
			for _, n := range noWords() {
				r := x.reply
				*at(&r) = n
				wantNoReply(t, "word", r)
			}
		}
	}
}

// TestAccept is M1 and M3: 0 to 5, and no other.
func TestAccept(t *testing.T) {
	for n := range 6 {
		r := api.Reply{Xid: 1, Accept: n}
		text, is := modelReply(r)
		if !is {
			t.Error(n)
		}
		wantReply(t, r, text)
	}
	for _, n := range append(noWords(), 6, 7, 14, 255, 256, 1<<31, 1<<32-1) {
		wantNoReply(t, "accept", api.Reply{Xid: 1, Accept: n})
		for _, behind := range []string{"", words(0), words(0, 0), words(2, 2)} {
			if isWord(n) {
				wantNoReplyText(t, "accept", words(1, 1, 0, 0, 0, n)+behind)
			}
		}
	}
}

// TestReject is M1 and M3: 0 and 1, and no other.
func TestReject(t *testing.T) {
	for _, n := range append(noWords(), 2, 3, 5, 255, 256, 1<<31, 1<<32-1) {
		wantNoReply(t, "reject", api.Reply{Xid: 1, Denied: true, Reject: n})
		for _, behind := range []string{"", words(0), words(1), words(0, 0), words(2, 2)} {
			if isWord(n) {
				wantNoReplyText(t, "reject", words(1, 1, 1, n)+behind)
			}
		}
	}
}

// TestWhy is M1 and M3: 0 to 14, and no other.
func TestWhy(t *testing.T) {
	for n := range 15 {
		wantReply(t, api.Reply{Xid: 1, Denied: true, Reject: 1, Why: n}, words(1, 1, 1, 1, n))
	}
	for _, n := range append(noWords(), 15, 16, 255, 256, 1<<31, 1<<32-1) {
		wantNoReply(t, "why", api.Reply{Xid: 1, Denied: true, Reject: 1, Why: n})
		if isWord(n) {
			wantNoReplyText(t, "why", words(1, 1, 1, 1, n))
		}
	}
}

// TestBodies is M1 to M3: a credential's body, and a verifier's, of 0 to 400 bytes, and longer ones.
func TestBodies(t *testing.T) {
	for n := range 401 {
		c := exampleCall()
		c.Cred.Body = every(n)
		wantCall(t, c, modelCall(c))
		c.Verf.Body = every(400 - n)
		wantCall(t, c, modelCall(c))
		for _, x := range exampleReplies()[2:] {
			x.reply.Verf.Body = every(n)
			text, _ := modelReply(x.reply)
			wantReply(t, x.reply, text)
		}
	}
	for _, n := range []int{401, 402, 403, 404, 408, 656, 1000, 1 << 20} {
		c, d, r := exampleCall(), exampleCall(), exampleReplies()[3].reply
		c.Cred.Body = every(n)
		d.Verf.Body = every(n)
		r.Verf.Body = every(n)
		wantNoCall(t, "credential", c)
		wantNoCallText(t, "credential", modelCall(c))
		wantNoCall(t, "verifier", d)
		wantNoCallText(t, "verifier", modelCall(d))
		wantNoReply(t, "verifier", r)
		text, _ := modelReply(r)
		wantNoReplyText(t, "verifier", text)
	}
}

// TestTails is M1 to M3: arguments and results of 0 to 1000 bytes, by fours.
func TestTails(t *testing.T) {
	for n := range 1020 {
		c, r := exampleCall(), exampleReplies()[2].reply
		c.Args, r.Results = every(n), every(n)
		text, _ := modelReply(r)
		if n <= 1000 && n%4 == 0 {
			wantCall(t, c, modelCall(c))
			wantReply(t, r, text)
			continue
		}
		wantNoCall(t, "arguments", c)
		wantNoCallText(t, "arguments", modelCall(c))
		wantNoReply(t, "results", r)
		wantNoReplyText(t, "results", text)
	}
	for _, n := range []int{1840, 2000, 4096, 1 << 16, 1<<20 + 4} {
		c, r := exampleCall(), exampleReplies()[2].reply
		c.Args, r.Results = every(n), every(n)
		text, _ := modelReply(r)
		wantNoCall(t, "arguments", c)
		wantNoCallText(t, "arguments", modelCall(c))
		wantNoReply(t, "results", r)
		wantNoReplyText(t, "results", text)
	}
}

// TestGreatest: the greatest call has 1840 bytes, the greatest reply 1424; no bound but those of the fields is asked.
func TestGreatest(t *testing.T) {
	full := api.Auth{Flavor: api.MaxWord, Body: strings.Repeat("\xff", 400)}
	c := api.Call{Xid: api.MaxWord, Rpc: 2, Prog: api.MaxWord, Vers: api.MaxWord, Proc: api.MaxWord, Cred: full, Verf: full, Args: every(1000)}
	wantCall(t, c, modelCall(c))
	r := api.Reply{Xid: api.MaxWord, Verf: full, Results: every(1000)}
	text, _ := modelReply(r)
	wantReply(t, r, text)
	s, _ := message.PrintCall(c)
	u, _ := message.PrintReply(r)
	if len(s) != 1840 || len(u) != 1424 {
		t.Errorf("%d and %d bytes", len(s), len(u))
	}
}

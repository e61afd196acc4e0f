package message_test

import (
	"strings"
	"testing"

	"callbox/api"
	"callbox/message"
)

// strange are fields of a reply, each with something in it.
func strange() map[string]func(r *api.Reply) {
	return map[string]func(r *api.Reply){
		"flavor":   func(r *api.Reply) { r.Verf.Flavor = 1 },
		"body":     func(r *api.Reply) { r.Verf.Body = "x" },
		"a nought": func(r *api.Reply) { r.Verf.Body = "\x00" },
		"accept":   func(r *api.Reply) { r.Accept = 1 },
		"reject":   func(r *api.Reply) { r.Reject = 1 },
		"why":      func(r *api.Reply) { r.Why = 1 },
		"low":      func(r *api.Reply) { r.Low = 1 },
		"high":     func(r *api.Reply) { r.High = 1 },
		"results":  func(r *api.Reply) { r.Results = "abcd" },
		"no why":   func(r *api.Reply) { r.Why = -1 },
		"no low":   func(r *api.Reply) { r.Low = -1 },
		"no high":  func(r *api.Reply) { r.High = 1 << 32 },
		"noughts":  func(r *api.Reply) { r.Results = "\x00\x00\x00\x00" },
	}
}

// TestStrangers is M1: what does not belong to a reply's shape is zero or empty.
func TestStrangers(t *testing.T) {
	denied := "flavor body nought accept results "
	accepted := "reject why "
	for name, x := range map[string]struct {
		reply api.Reply
		not   string
	}{
		"rpc mismatch":  {api.Reply{Denied: true}, denied + "why"},
		"auth error":    {api.Reply{Denied: true, Reject: 1}, denied + "low high"},
		"success":       {api.Reply{}, accepted + "low high"},
		"prog unavail":  {api.Reply{Accept: 1}, accepted + "low high results noughts"},
		"prog mismatch": {api.Reply{Accept: 2}, accepted + "results noughts"},
		"proc unavail":  {api.Reply{Accept: 3}, accepted + "low high results noughts"},
		"garbage args":  {api.Reply{Accept: 4}, accepted + "low high results noughts"},
		"system err":    {api.Reply{Accept: 5}, accepted + "low high results noughts"},
	} {
		text, _ := modelReply(x.reply)
		wantReply(t, x.reply, text)
		for _, field := range strings.Fields(x.not) {
			for strangeName, set := range strange() {
				if strings.HasSuffix(strangeName, field) {
					r := x.reply
					set(&r)
					wantNoReply(t, name+", "+strangeName, r)
				}
			}
		}
	}
}

// TestSigns is M2 and M3: the second number is 0 in a call and 1 in a reply.
func TestSigns(t *testing.T) {
	for _, n := range []int{1, 2, 3, 256, 1 << 16, 1 << 24, 1 << 31, 1<<32 - 1} {
		wantNoCallText(t, "sign", words(9, n)+exampleCallText()[8:])
		wantNoCallText(t, "sign of another version", words(9, n, 3))
		wantNoCallText(t, "sign of another version", words(9, n, 3)+exampleCallText()[12:])
	}
	for _, x := range exampleReplies() {
		for _, n := range []int{0, 2, 3, 256, 257, 1 << 24, 1<<24 + 1, 1<<32 - 1} {
			wantNoReplyText(t, "sign", words(9, n)+x.text[8:])
		}
		wantNoCallText(t, "a reply", x.text)
	}
	wantNoReplyText(t, "a call", exampleCallText())
}

// TestDenied is M3: the third number of a reply is 0 or 1.
func TestDenied(t *testing.T) {
	for _, x := range exampleReplies() {
		for _, n := range []int{2, 3, 256, 257, 1 << 24, 1<<24 + 1, 1 << 31, 1<<32 - 1} {
			wantNoReplyText(t, "denied", words(9, 1, n)+x.text[12:])
		}
	}
}

// TestCut is M2 and M3: no front of a message is one, but where arguments or results are cut by fours; and only these go on.
func TestCut(t *testing.T) {
	whole := exampleCallText()
	for n := range len(whole) {
		if n < len(whole)-8 || n%4 != 0 {
			wantNoCallText(t, "cut", whole[:n])
			continue
		}
		c := exampleCall()
		c.Args = whole[len(whole)-8 : n]
		wantCall(t, c, whole[:n])
	}
	for i, x := range exampleReplies() {
		for n := range len(x.text) {
			if i != 2 || n < len(x.text)-8 || n%4 != 0 {
				wantNoReplyText(t, "cut", x.text[:n])
				continue
			}
			r := x.reply
			r.Results = x.text[len(x.text)-8 : n]
			wantReply(t, r, x.text[:n])
		}
		for _, more := range []string{"\x00", "\x00\x00", "\x00\x00\x00", "\x00\x00\x00\x00", "\x00\x00\x00\x01", x.text} {
			if i != 2 || len(more)%4 != 0 {
				wantNoReplyText(t, "more", x.text+more)
			}
		}
	}
	for n := range 12 {
		wantNoCallText(t, "another version, cut", words(9, 0, 3)[:n])
	}
}

// TestPadding is M2 and M3: each byte behind a body is 0.
func TestPadding(t *testing.T) {
	for n := range 5 {
		pad := (4 - n%4) % 4
		for i := range pad {
			for _, b := range []string{"\x01", "\x80", "\xff", "0"} {
				bent := words(7, n) + "abcd"[:n] + strings.Repeat("\x00", i) + b + strings.Repeat("\x00", pad-i-1)
				wantNoCallText(t, "credential", words(9, 0, 2, 1, 1, 1)+bent+words(0, 0))
				wantNoCallText(t, "verifier", words(9, 0, 2, 1, 1, 1, 0, 0)+bent)
				wantNoCallText(t, "verifier, arguments", words(9, 0, 2, 1, 1, 1, 0, 0)+bent+"ARGS")
				wantNoReplyText(t, "verifier", words(9, 1, 0)+bent+words(0))
				wantNoReplyText(t, "verifier", words(9, 1, 0)+bent+words(1))
			}
		}
	}
}

// TestLengths is M2 and M3: a length beyond what is left.
func TestLengths(t *testing.T) {
	for _, n := range []int{9, 12, 400, 401, 1 << 24, 1 << 31, 1<<32 - 1} {
		wantNoCallText(t, "credential", words(9, 0, 2, 1, 1, 1, 0, n, 0, 0))
		wantNoCallText(t, "verifier", words(9, 0, 2, 1, 1, 1, 0, 0, 0, n, 0, 0))
		wantNoReplyText(t, "verifier", words(9, 1, 0, 0, n, 0, 0))
	}
}

// TestBentBytes is M4: with any byte another one, a text is refused, or is that of another message alone.
func TestBentBytes(t *testing.T) {
	texts := []string{exampleCallText()}
	for _, x := range exampleReplies() {
		texts = append(texts, x.text)
	}
	told, refused := 0, 0
	for _, text := range texts {
		for i := range len(text) {
			for b := range 256 {
				bent := text[:i] + string([]byte{byte(b)}) + text[i+1:]
				if wrong := textWrong(bent); wrong != "" {
					t.Fatalf("%q: %s", bent, wrong)
				}
				_, e := message.ParseCall(bent)
				_, f := message.ParseReply(bent)
				if e == api.OK || f == api.OK {
					told++
				} else {
					refused++
				}
			}
		}
	}
	if told < 20000 || refused < 20000 {
		t.Errorf("%d told, %d refused", told, refused)
	}
}

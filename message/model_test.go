package message_test

import (
	"encoding/binary"

	"callbox/api"
)

// The model: the chapter said once more, with nothing of layer 2. A text is read by being guessed and laid down again: it is that of a message just if the message may be and its bytes are the text.

func isWord(numbers ...int) bool {
	for _, n := range numbers {
		if n != int(uint32(n)) {
			return false
		}
	}
	return true
}

func modelAuth(a api.Auth) string {
	b := binary.BigEndian.AppendUint32(nil, uint32(a.Flavor))
	b = binary.BigEndian.AppendUint32(b, uint32(len(a.Body)))
	b = append(b, a.Body...)
	for len(b)%4 != 0 {
		b = append(b, 0)
	}
	return string(b)
}

func modelAuthMayBe(a api.Auth) bool { return isWord(a.Flavor) && len(a.Body) < 401 }

func modelTailMayBe(s string) bool { return len(s) < 1001 && len(s)&3 == 0 }

func modelCall(c api.Call) string {
	return words(c.Xid, 0, 2, c.Prog, c.Vers, c.Proc) + modelAuth(c.Cred) + modelAuth(c.Verf) + c.Args
}

func modelCallMayBe(c api.Call) bool {
	return c.Rpc == 2 && isWord(c.Xid, c.Prog, c.Vers, c.Proc) && modelAuthMayBe(c.Cred) && modelAuthMayBe(c.Verf) && modelTailMayBe(c.Args)
}

// modelReply is the bytes of a reply, and whether it may be: it is made again of what belongs to it, so that all else in it must be zero.
func modelReply(r api.Reply) (string, bool) {
	if r.Denied {
		switch r.Reject {
		case 0:
			only := api.Reply{Xid: r.Xid, Denied: true, Low: r.Low, High: r.High}
			return words(r.Xid, 1, 1, 0, r.Low, r.High), r == only && isWord(r.Xid, r.Low, r.High)
		case 1:
			only := api.Reply{Xid: r.Xid, Denied: true, Reject: 1, Why: r.Why}
			return words(r.Xid, 1, 1, 1, r.Why), r == only && isWord(r.Xid) && r.Why >= 0 && r.Why < 15
		}
		return "", false
	}
	only := api.Reply{Xid: r.Xid, Verf: r.Verf, Accept: r.Accept}
	text := words(r.Xid, 1, 0) + modelAuth(r.Verf) + words(r.Accept)
	switch r.Accept {
	case 0:
		only.Results = r.Results
		text += r.Results
	case 2:
		only.Low, only.High = r.Low, r.High
		text += words(r.Low, r.High)
	case 1, 3, 4, 5:
	default:
		return "", false
	}
	return text, r == only && isWord(r.Xid, r.Low, r.High) && modelAuthMayBe(r.Verf) && modelTailMayBe(r.Results)
}

// wordAt is the word there, of noughts behind the end.
func wordAt(text string, at int) int {
	b := make([]byte, 4)
	copy(b, text[min(at, len(text)):])
	return int(binary.BigEndian.Uint32(b))
}

// guessAuth is a credential there, and where what follows it begins.
func guessAuth(text string, at int) (api.Auth, int) {
	from := min(at+8, len(text))
	to := min(from+wordAt(text, at+4), len(text))
	return api.Auth{Flavor: wordAt(text, at), Body: text[from:to]}, at + 8 + (to-from+3)/4*4
}

func guessCall(text string) api.Call {
	c := api.Call{Xid: wordAt(text, 0), Rpc: 2, Prog: wordAt(text, 12), Vers: wordAt(text, 16), Proc: wordAt(text, 20)}
	at := 0
	c.Cred, at = guessAuth(text, 24)
	c.Verf, at = guessAuth(text, at)
	c.Args = text[min(at, len(text)):]
	return c
}

func guessReply(text string) api.Reply {
	r := api.Reply{Xid: wordAt(text, 0), Denied: wordAt(text, 8) == 1}
	switch {
	case r.Denied && wordAt(text, 12) == 0:
		r.Low, r.High = wordAt(text, 16), wordAt(text, 20)
	case r.Denied:
		r.Reject, r.Why = wordAt(text, 12), wordAt(text, 16)
	default:
		at := 0
		r.Verf, at = guessAuth(text, 12)
		r.Accept = wordAt(text, at)
		if r.Accept == 0 {
			r.Results = text[min(at+4, len(text)):]
		}
		if r.Accept == 2 {
			r.Low, r.High = wordAt(text, at+4), wordAt(text, at+8)
		}
	}
	return r
}

func isOther(text string) bool {
	return len(text) > 11 && wordAt(text, 4) == 0 && wordAt(text, 8) != 2
}

func modelParseCall(text string) (api.Call, api.Errno) {
	c := guessCall(text)
	switch {
	case isOther(text):
		return api.Call{Xid: wordAt(text, 0), Rpc: wordAt(text, 8)}, api.OK
	case modelCall(c) == text && modelCallMayBe(c):
		return c, api.OK
	}
	return api.Call{}, api.ErrMessageForm
}

func modelParseReply(text string) (api.Reply, api.Errno) {
	r := guessReply(text)
	if laid, is := modelReply(r); is && laid == text {
		return r, api.OK
	}
	return api.Reply{}, api.ErrMessageForm
}

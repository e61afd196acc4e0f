package message_test

import (
	"strings"
	"testing"

	"callbox/api"
	"callbox/message"
)

// words are numbers by four bytes each.
func words(numbers ...int) string {
	var b []byte
	for _, n := range numbers {
		b = append(b, byte(n>>24), byte(n>>16), byte(n>>8), byte(n))
	}
	return string(b)
}

// exampleCall has something in each field.
func exampleCall() api.Call {
	return api.Call{Xid: 9, Rpc: 2, Prog: 100000, Vers: 3, Proc: 4, Cred: api.Auth{Flavor: 1, Body: "abcde"}, Verf: api.Auth{Flavor: 6, Body: "xyz"}, Args: "ARGSargs"}
}

func exampleCallText() string {
	return words(9, 0, 2, 100000, 3, 4, 1, 5) + "abcde\x00\x00\x00" + words(6, 3) + "xyz\x00" + "ARGSargs"
}

// example is a reply and its bytes.
type example struct {
	reply api.Reply
	text  string
}

// exampleReplies are of all shapes: for each, all that may be there is there.
func exampleReplies() []example {
	verf := api.Auth{Flavor: 6, Body: "xyz"}
	front := words(9, 1, 0, 6, 3) + "xyz\x00"
	return []example{
		{api.Reply{Xid: 9, Denied: true, Reject: api.RpcMismatch, Low: 5, High: 7}, words(9, 1, 1, 0, 5, 7)},
		{api.Reply{Xid: 9, Denied: true, Reject: api.AuthError, Why: 8}, words(9, 1, 1, 1, 8)},
		{api.Reply{Xid: 9, Verf: verf, Accept: api.Success, Results: "DONEdone"}, front + words(0) + "DONEdone"},
		{api.Reply{Xid: 9, Verf: verf, Accept: api.ProgUnavail}, front + words(1)},
		{api.Reply{Xid: 9, Verf: verf, Accept: api.ProgMismatch, Low: 5, High: 7}, front + words(2, 5, 7)},
		{api.Reply{Xid: 9, Verf: verf, Accept: api.ProcUnavail}, front + words(3)},
		{api.Reply{Xid: 9, Verf: verf, Accept: api.GarbageArgs}, front + words(4)},
		{api.Reply{Xid: 9, Verf: verf, Accept: api.SystemErr}, front + words(5)},
	}
}

// wantCall: this call has these bytes, and is read of them.
func wantCall(t *testing.T, c api.Call, text string) {
	t.Helper()
	if got, e := message.PrintCall(c); e != api.OK || got != text {
		t.Errorf("PrintCall(%v): %q, %d", c, got, e)
	}
	if got, e := message.ParseCall(text); e != api.OK || got != c {
		t.Errorf("ParseCall(%q): %v, %d", text, got, e)
	}
}

func wantReply(t *testing.T, r api.Reply, text string) {
	t.Helper()
	if got, e := message.PrintReply(r); e != api.OK || got != text {
		t.Errorf("PrintReply(%v): %q, %d", r, got, e)
	}
	if got, e := message.ParseReply(text); e != api.OK || got != r {
		t.Errorf("ParseReply(%q): %v, %d", text, got, e)
	}
}

// wantOther: this text is a call of another version, and is told as that alone.
func wantOther(t *testing.T, xid, rpc int, text string) {
	t.Helper()
	if got, e := message.ParseCall(text); e != api.OK || got != (api.Call{Xid: xid, Rpc: rpc}) {
		t.Errorf("ParseCall(%q): %v, %d", text, got, e)
	}
}

// wantNoCall: a call that may not be.
func wantNoCall(t *testing.T, name string, c api.Call) {
	t.Helper()
	if got, e := message.PrintCall(c); e != api.ErrMessageField || got != "" {
		t.Errorf("%s: PrintCall(%v): %q, %d", name, c, got, e)
	}
}

func wantNoReply(t *testing.T, name string, r api.Reply) {
	t.Helper()
	if got, e := message.PrintReply(r); e != api.ErrMessageField || got != "" {
		t.Errorf("%s: PrintReply(%v): %q, %d", name, r, got, e)
	}
}

// wantNoCallText: the bytes of no call.
func wantNoCallText(t *testing.T, name, text string) {
	t.Helper()
	if got, e := message.ParseCall(text); e != api.ErrMessageForm || got != (api.Call{}) {
		t.Errorf("%s: ParseCall(%q): %v, %d", name, text, got, e)
	}
}

func wantNoReplyText(t *testing.T, name, text string) {
	t.Helper()
	if got, e := message.ParseReply(text); e != api.ErrMessageForm || got != (api.Reply{}) {
		t.Errorf("%s: ParseReply(%q): %v, %d", name, text, got, e)
	}
}

// TestExamples are the chapter's, one by one.
func TestExamples(t *testing.T) {
	call := "\x00\x00\x00\x01\x00\x00\x00\x00\x00\x00\x00\x02\x00\x01\x86\xa0\x00\x00\x00\x02\x00\x00\x00\x03" + strings.Repeat("\x00", 16)
	wantCall(t, api.Call{Xid: 1, Rpc: 2, Prog: 100000, Vers: 2, Proc: 3}, call)
	reply := "\x00\x00\x00\x01\x00\x00\x00\x01\x00\x00\x00\x00" + strings.Repeat("\x00", 8) + "\x00\x00\x00\x02\x00\x00\x00\x02\x00\x00\x00\x04"
	wantReply(t, api.Reply{Xid: 1, Accept: api.ProgMismatch, Low: 2, High: 4}, reply)
	if len(call) != 40 || len(reply) != 32 {
		t.Errorf("%d and %d bytes", len(call), len(reply))
	}
	wantReply(t, api.Reply{Xid: 1, Denied: true, Reject: api.AuthError, Why: 5}, "\x00\x00\x00\x01\x00\x00\x00\x01\x00\x00\x00\x01\x00\x00\x00\x01\x00\x00\x00\x05")
	wantOther(t, 9, 3, "\x00\x00\x00\x09\x00\x00\x00\x00\x00\x00\x00\x03")
	wantOther(t, 9, 3, "\x00\x00\x00\x09\x00\x00\x00\x00\x00\x00\x00\x03 and anything")
	wantNoCallText(t, "a reply's sign", "\x00\x00\x00\x09\x00\x00\x00\x01\x00\x00\x00\x03")
	wantNoReply(t, "a success with Low", api.Reply{Xid: 1, Accept: api.Success, Low: 1})
	wantNoCall(t, "five bytes", api.Call{Xid: 1, Rpc: 2, Args: "abcde"})
	wantNoReply(t, "five bytes", api.Reply{Xid: 1, Results: "abcde"})
	wantNoCallText(t, "41 bytes", call+"\x00")
	wantNoCallText(t, "a body of 401", words(1, 0, 2, 7, 1, 4, 0, 401)+strings.Repeat("b", 401)+"\x00\x00\x00"+words(0, 0))
}

// TestCallFields is M1 and M2: each field of a call has its own place.
func TestCallFields(t *testing.T) {
	wantCall(t, exampleCall(), exampleCallText())
	c := api.Call{Xid: 0x01020304, Rpc: 2, Prog: 0x11121314, Vers: 0x21222324, Proc: 0x31323334}
	c.Cred = api.Auth{Flavor: 0x41424344, Body: "\xff\xfe"}
	c.Verf = api.Auth{Flavor: 0x51525354, Body: "\xfd\x00\xfb\xfa\xf9"}
	c.Args = "\x61\x62\x63\x64"
	wantCall(t, c, "\x01\x02\x03\x04\x00\x00\x00\x00\x00\x00\x00\x02\x11\x12\x13\x14\x21\x22\x23\x24\x31\x32\x33\x34"+
		"\x41\x42\x43\x44\x00\x00\x00\x02\xff\xfe\x00\x00\x51\x52\x53\x54\x00\x00\x00\x05\xfd\x00\xfb\xfa\xf9\x00\x00\x00\x61\x62\x63\x64")
	wantCall(t, api.Call{Rpc: 2}, words(0, 0, 2, 0, 0, 0, 0, 0, 0, 0))
}

// TestReplyFields is M1 and M3: each field of each shape of a reply has its own place.
func TestReplyFields(t *testing.T) {
	for _, x := range exampleReplies() {
		wantReply(t, x.reply, x.text)
	}
	wantReply(t, api.Reply{}, words(0, 1, 0, 0, 0, 0))
	wantReply(t, api.Reply{Denied: true}, words(0, 1, 1, 0, 0, 0))
	wantReply(t, api.Reply{Denied: true, Reject: 1}, words(0, 1, 1, 1, 0))
	wantReply(t, api.Reply{Xid: 0x01020304, Denied: true, Low: 0x11121314, High: 0x21222324}, words(0x01020304, 1, 1, 0, 0x11121314, 0x21222324))
	wantReply(t, api.Reply{Xid: 1, Denied: true, Low: 4, High: 2}, words(1, 1, 1, 0, 4, 2))
	wantReply(t, api.Reply{Xid: 1, Accept: 2, Low: 4, High: 2}, words(1, 1, 0, 0, 0, 2, 4, 2))
}

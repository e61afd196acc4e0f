package message_test

import (
	"math/rand"
	"testing"

	"callbox/api"
	"callbox/message"
)

// callWrong is what is wrong with what a call is printed as: it is what the model says, and is read as the call.
func callWrong(c api.Call) string {
	s, e := message.PrintCall(c)
	if !modelCallMayBe(c) {
		if e != api.ErrMessageField || s != "" {
			return "a call that may not be is printed"
		}
		return ""
	}
	if e != api.OK || s != modelCall(c) {
		return "PrintCall differs"
	}
	if again, e := message.ParseCall(s); e != api.OK || again != c {
		return "ParseCall of PrintCall differs"
	}
	return ""
}

func replyWrong(r api.Reply) string {
	s, e := message.PrintReply(r)
	want, is := modelReply(r)
	if !is {
		if e != api.ErrMessageField || s != "" {
			return "a reply that may not be is printed"
		}
		return ""
	}
	if e != api.OK || s != want {
		return "PrintReply differs"
	}
	if again, e := message.ParseReply(s); e != api.OK || again != r {
		return "ParseReply of PrintReply differs"
	}
	return ""
}

// textWrong is what is wrong with what is read of a text: it is what the model says, is printed as the text, and is not both.
func textWrong(text string) string {
	c, e := message.ParseCall(text)
	if want, f := modelParseCall(text); e != f || c != want {
		return "ParseCall differs"
	}
	r, f := message.ParseReply(text)
	if want, e := modelParseReply(text); e != f || r != want {
		return "ParseReply differs"
	}
	if e == api.OK && f == api.OK {
		return "a call and a reply"
	}
	if again, wrong := message.PrintCall(c); e == api.OK && !isOther(text) && (wrong != api.OK || again != text) {
		return "PrintCall of ParseCall differs"
	}
	if again, wrong := message.PrintReply(r); f == api.OK && (wrong != api.OK || again != text) {
		return "PrintReply of ParseReply differs"
	}
	return ""
}

// TestCallsMade is M1, M2 and M4: of all kinds of calls.
func TestCallsMade(t *testing.T) {
	r := rand.New(rand.NewSource(1))
	refused := 0
	for range 20000 {
		c := makeCall(r)
		if wrong := callWrong(c); wrong != "" {
			t.Fatalf("%v: %s", c, wrong)
		}
		c = spoilCall(r, c)
		if wrong := callWrong(c); wrong != "" {
			t.Fatalf("%v: %s", c, wrong)
		}
		if _, e := message.PrintCall(c); e != api.OK {
			refused++
		}
	}
	if refused < 8000 || refused > 16000 {
		t.Errorf("%d of 20000 may not be", refused)
	}
}

// TestRepliesMade is M1, M3 and M4: of all kinds of replies.
func TestRepliesMade(t *testing.T) {
	r := rand.New(rand.NewSource(2))
	refused := 0
	for range 40000 {
		x := makeReply(r)
		if wrong := replyWrong(x); wrong != "" {
			t.Fatalf("%v: %s", x, wrong)
		}
		x = spoilReply(r, x)
		if wrong := replyWrong(x); wrong != "" {
			t.Fatalf("%v: %s", x, wrong)
		}
		if _, e := message.PrintReply(x); e != api.OK {
			refused++
		}
	}
	if refused < 20000 || refused > 36000 {
		t.Errorf("%d of 40000 may not be", refused)
	}
}

// TestTextsMade is M2 to M4: of all kinds of texts.
func TestTextsMade(t *testing.T) {
	r := rand.New(rand.NewSource(3))
	calls, others, replies, none := 0, 0, 0, 0
	for range 60000 {
		text := makeText(r)
		if r.Intn(2) == 0 {
			text = spoilText(r, text)
		}
		if wrong := textWrong(text); wrong != "" {
			t.Fatalf("%q: %s", text, wrong)
		}
		_, e := message.ParseCall(text)
		_, f := message.ParseReply(text)
		switch {
		case isOther(text):
			others++
		case e == api.OK:
			calls++
		case f == api.OK:
			replies++
		default:
			none++
		}
	}
	if min(calls, others, replies, none) < 4000 {
		t.Errorf("%d calls, %d others, %d replies, %d none", calls, others, replies, none)
	}
}

// TestFrontsAlike is M4: with another tail, as far as it may be, all else is read alike.
func TestFrontsAlike(t *testing.T) {
	r := rand.New(rand.NewSource(4))
	for range 10000 {
		c := makeCall(r)
		text := modelCall(c)
		front := text[:len(text)-len(c.Args)]
		tail := wrongTail(r)
		got, e := message.ParseCall(front + tail)
		c.Args = tail
		if is := modelTailMayBe(tail); is != (e == api.OK) || is && got != c {
			t.Fatalf("%q, %q: %v, %d", front, tail, got, e)
		}
		x := api.Reply{Xid: makeWord(r), Verf: makeAuth(r), Results: tail}
		front, _ = modelReply(api.Reply{Xid: x.Xid, Verf: x.Verf})
		reply, e := message.ParseReply(front + tail)
		if is := modelTailMayBe(tail); is != (e == api.OK) || is && reply != x {
			t.Fatalf("%q, %q: %v, %d", front, tail, reply, e)
		}
	}
}

// FuzzParse: any text, also behind the heads of calls and of replies.
func FuzzParse(f *testing.F) {
	f.Add(exampleCallText())
	f.Add(exampleCallText()[12:])
	f.Add(words(9, 0, 3))
	for _, x := range exampleReplies() {
		f.Add(x.text)
		f.Add(x.text[8:])
	}
	f.Fuzz(func(t *testing.T, text string) {
		for _, head := range []string{"", words(9, 0, 2), words(9, 0), words(9, 1), words(9, 1, 1), words(9, 1, 0, 0, 0)} {
			if wrong := textWrong(head + text); wrong != "" {
				t.Errorf("%q: %s", head+text, wrong)
			}
		}
	})
}

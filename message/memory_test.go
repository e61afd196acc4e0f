package message_test

import (
	"math/rand"
	"runtime"
	"slices"
	"strings"
	"sync"
	"testing"
	"unsafe"

	"callbox/api"
	"callbox/message"
)

// span is where a text lies.
type span struct{ from, to uintptr }

func spans(texts []string) []span {
	var out []span
	for _, s := range texts {
		if s != "" {
			from := uintptr(unsafe.Pointer(unsafe.StringData(s)))
			out = append(out, span{from, from + uintptr(len(s))})
		}
	}
	return out
}

func shared(all []span) bool {
	slices.SortFunc(all, func(a, b span) int { return int(a.from) - int(b.from) })
	for i := 1; i < len(all); i++ {
		if all[i-1].to > all[i].from {
			return true
		}
	}
	return false
}

// TestNewMemory: what comes out shares no memory, in one answer or in two, nor with what was handed in.
func TestNewMemory(t *testing.T) {
	r := rand.New(rand.NewSource(11))
	for range 3000 {
		c, x := makeCall(r), makeReply(r)
		// All of them are kept until all are there: the memory of one that is gone may be another's, and rightly.
		kept := []string{c.Cred.Body, c.Verf.Body, c.Args, x.Verf.Body, x.Results}
		for range 2 {
			s, e := message.PrintCall(c)
			u, f := message.PrintReply(x)
			d, g := message.ParseCall(s)
			y, h := message.ParseReply(u)
			if e != api.OK || f != api.OK || g != api.OK || h != api.OK {
				t.Fatal(c, x, e, f, g, h)
			}
			kept = append(kept, s, u, d.Cred.Body, d.Verf.Body, d.Args, y.Verf.Body, y.Results)
		}
		if shared(spans(kept)) {
			t.Fatalf("%v, %v: memory is shared", c, x)
		}
	}
}

// TestLongTexts: what is too long is refused without being copied.
func TestLongTexts(t *testing.T) {
	long := strings.Repeat("\x00", 1<<22)
	call, reply := exampleCallText()+long, words(9, 1, 0, 0, 0, 0)+long
	other := words(9, 0, 3) + long
	c, x := exampleCall(), exampleReplies()[2].reply
	c.Args, x.Results = long, long
	b, v := exampleCall(), exampleReplies()[2].reply
	b.Cred.Body, v.Verf.Body = long, long
	var before, behind runtime.MemStats
	runtime.ReadMemStats(&before)
	wantNoCallText(t, "long", call)
	wantNoReplyText(t, "long", reply)
	wantOther(t, 9, 3, other)
	wantNoCall(t, "long", c)
	wantNoCall(t, "long", b)
	wantNoReply(t, "long", x)
	wantNoReply(t, "long", v)
	runtime.ReadMemStats(&behind)
	if n := behind.TotalAlloc - before.TotalAlloc; n > 1<<20 {
		t.Errorf("%d bytes", n)
	}
}

// TestAtOnce: calls know nothing of one another, whoever calls.
func TestAtOnce(t *testing.T) {
	var all sync.WaitGroup
	for range 8 {
		all.Go(func() {
			for range 300 {
				wantCall(t, exampleCall(), exampleCallText())
				wantOther(t, 9, 3, words(9, 0, 3))
				wantNoCallText(t, "at once", exampleCallText()[:20])
				for _, x := range exampleReplies() {
					wantReply(t, x.reply, x.text)
				}
			}
		})
	}
	all.Wait()
}

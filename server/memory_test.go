package server_test

import (
	"runtime"
	"slices"
	"strings"
	"sync"
	"testing"
	"time"
	"unsafe"
	"weak"

	"callbox/api"
	"callbox/server"
	"callbox/service"
)

// scribble writes over a list, and over its spare room.
func scribble[T any](list []T, with T) {
	whole := list[:cap(list)]
	for i := range whole {
		whole[i] = with
	}
}

// isScribbled: nobody has written into the list since.
func isScribbled[T comparable](list []T, with T) bool {
	return !slices.ContainsFunc(list[:cap(list)], func(x T) bool { return x != with })
}

// TestListsAreNewMemory: what is done with a list that came out is nothing to the server, and the other way round.
func TestListsAreNewMemory(t *testing.T) {
	config := exampleConfig()
	config.Cache = api.CacheConfig{Clients: 64, Entries: 64, Bytes: 1 << 20, Reserve: 100}
	s, quiet := serverOf(t, config), serverOf(t, config)
	for _, x := range []*server.Server{s, quiet} {
		offer(t, x, 7, 2, (&ear{}).handle, 1)
	}
	badPacket, badEntry := api.Packet{From: -1, To: -1, Data: "scribble"}, api.Entry{Sequence: -1}
	var packets [][]api.Packet
	var logs [][]api.Entry
	for n := 1; n <= 40; n++ {
		p, refused := request(t, ann, n, 1, words(n)), request(t, ann, n, n, "")
		refused.Data = refused.Data[:8] + words(9)
		wantHear(t, quiet, p)
		wantHear(t, s, p)
		worked, _ := s.Work()
		want, _ := quiet.Work()
		came := [][]api.Packet{worked, s.Hear(p), s.Hear(refused)}
		for i, l := range [][]api.Packet{want, quiet.Hear(p), quiet.Hear(refused)} {
			wantPackets(t, "beside a server whose lists are left", came[i], l...)
		}
		log := s.Log()
		if t.Failed() || !slices.Equal(log, quiet.Log()) || len(log) != n {
			t.Fatalf("at %d: the server is disturbed", n)
		}
		packets, logs = append(packets, came...), append(logs, log)
		for _, l := range came {
			scribble(l, badPacket)
		}
		scribble(log, badEntry)
		for _, l := range packets {
			if !isScribbled(l, badPacket) {
				t.Fatalf("at %d: packets that came out were written into", n)
			}
		}
		for _, l := range logs {
			if !isScribbled(l, badEntry) {
				t.Fatalf("at %d: a log that came out was written into", n)
			}
		}
	}
}

// wantFreed: what p points to goes, once nobody has it.
func wantFreed[T any](t *testing.T, what string, p weak.Pointer[T]) {
	t.Helper()
	for range 50 {
		runtime.GC()
		if p.Value() == nil {
			return
		}
		time.Sleep(time.Millisecond)
	}
	t.Errorf("%s is kept", what)
}

// hearPiece hears a datagram whose bytes are a piece of a far longer text.
func hearPiece(t *testing.T, s *server.Server, p api.Packet) weak.Pointer[byte] {
	t.Helper()
	text := strings.Repeat("-", 1<<16) + p.Data + strings.Repeat("-", 1<<16)
	p.Data = text[1<<16:][:len(p.Data)]
	s.Hear(p)
	return weak.Make(unsafe.StringData(text))
}

// TestDatagramsAreNotKept: of a call its arguments are kept, not the text that they came in.
func TestDatagramsAreNotKept(t *testing.T) {
	s, _ := example(t)
	nought, nobody := callOf(t, 9, 9, ""), callOf(t, 9, 9, "abcd")
	nought.Proc, nobody.Cred = 0, api.Auth{}
	wantFreed(t, "a call that waits", hearPiece(t, s, request(t, ann, 1, 1, "abcd")))
	wantFreed(t, "a call that is under way", hearPiece(t, s, request(t, ann, 1, 1, "abcd")))
	wantFreed(t, "a call that is not run", hearPiece(t, s, packetOf(t, ann, nought)))
	wantFreed(t, "a call that is refused", hearPiece(t, s, packetOf(t, ann, nobody)))
	wantFreed(t, "what is no call", hearPiece(t, s, api.Packet{From: ann, To: here, Data: "what is no call"}))
	s.Work()
	wantFreed(t, "a call that is answered", hearPiece(t, s, request(t, ann, 1, 1, "abcd")))
	wantLog(t, s, entryOf(ann, 1, "abcd", api.Success, "abcd"))
}

// TestNothingIsKept: what a client will not send again does not lie in the server: neither the arguments of a call that was not run, nor a reply.
func TestNothingIsKept(t *testing.T) {
	config := exampleConfig()
	config.Cache.Bytes, config.Cache.Reserve = 4400, 1100
	s := serverOf(t, config)
	var heard weak.Pointer[byte]
	refuse := func(_ int, args string) (int, string) {
		heard = weak.Make(unsafe.StringData(args))
		return api.GarbageArgs, ""
	}
	offer(t, s, 7, 2, refuse, 1)
	wantHear(t, s, request(t, ann, 1, 1, strings.Repeat("one.", 200)))
	s.Work()
	wantLog(t, s)
	wantFreed(t, "the arguments that a handler refused", heard)
	before := liveBytes()
	for n := range 1000 {
		wantHear(t, s, request(t, ann, 2*n+2, 2*n+1, strings.Repeat("even", 250)))
		wantHear(t, s, request(t, ann, 2*n+3, 2*n+3, strings.Repeat("odd.", 250)))
		wantQueue(t, s, 1)
		if n%2 == 0 {
			s.Work()
		}
	}
	if behind := liveBytes(); behind > before+1<<16 {
		t.Errorf("%d bytes, and %d before", behind, before)
	}
	wantLog(t, s)
	runtime.KeepAlive(s)
}

func liveBytes() uint64 {
	var m runtime.MemStats
	runtime.GC()
	runtime.GC()
	runtime.ReadMemStats(&m)
	return m.HeapAlloc
}

// TestRefusedTakesNothing: what is refused, however often it comes, and from wherever, leaves nothing behind.
func TestRefusedTakesNothing(t *testing.T) {
	config := exampleConfig()
	config.Cache.Clients = 1
	s := serverOf(t, config)
	offer(t, s, 7, 2, (&ear{}).handle, 1)
	wantHear(t, s, request(t, ann, 1, 1, "abcd"))
	nobody, nought, other := callOf(t, 1, 1, "abcd"), callOf(t, 1, 1, ""), callOf(t, 1, 1, "abcd")
	nobody.Cred, nought.Proc, other.Vers = api.Auth{}, 0, 9
	texts := []string{"x", "\x00\x00\x00\x09\x00\x00\x00\x00\x00\x00\x00\x03", request(t, ann, 1, 1, "abcd").Data}
	for _, c := range []api.Call{nobody, nought, other} {
		texts = append(texts, packetOf(t, ann, c).Data)
	}
	hearAll := func(n int) {
		for _, text := range texts {
			s.Hear(api.Packet{From: bob + n, To: here, Data: text})
		}
	}
	hearAll(0)
	before := liveBytes()
	for n := range 20000 {
		hearAll(n)
	}
	if behind := liveBytes(); behind > before+1<<16 {
		t.Errorf("%d bytes, and %d before", behind, before)
	}
	wantQueue(t, s, 1)
	wantHeld(t, s, 1, 1, 100)
	wantWork(t, s, answerTo(t, ann, api.Reply{Xid: 1, Results: "abcd"}))
}

// TestProcsAreNotKept: the list that a service was offered with is neither written into nor read later.
func TestProcsAreNotKept(t *testing.T) {
	s := serverOf(t, exampleConfig())
	procs := []int{1, 2, 9, 9}[:2]
	offer(t, s, 7, 2, (&ear{}).handle, procs...)
	x := service.Service{Prog: 7, Vers: 3, Procs: procs, Handle: (&ear{}).handle}
	wantErrno(t, "Offer", s.Offer(x), api.OK)
	if !slices.Equal(procs[:4], []int{1, 2, 9, 9}) {
		t.Errorf("written into: %v", procs[:4])
	}
	procs[0], procs[1], x.Handle = 5, 6, nil
	c := callOf(t, 1, 1, "abcd")
	c.Vers = 3
	wantHear(t, s, packetOf(t, ann, c))
	wantWork(t, s, answerTo(t, ann, api.Reply{Xid: 1, Results: "abcd"}))
}

// TestApart: servers know nothing of one another, also at one address.
func TestApart(t *testing.T) {
	x, e := example(t)
	y, f := example(t)
	p := request(t, ann, 1, 1, "abcd")
	reply := answerTo(t, ann, api.Reply{Xid: 1, Results: "abcd"})
	wantHear(t, x, p)
	wantIdle(t, y)
	wantHeld(t, y, 0, 0, 0)
	wantWork(t, x, reply)
	wantHear(t, y, p)
	wantHear(t, x, request(t, ann, 5, 5, "five"))
	wantQueue(t, y, 1)
	wantCalled(t, f)
	wantWork(t, y, reply)
	wantHear(t, y, p, reply)
	wantHear(t, x, p)
	wantErrno(t, "Offer", x.Offer(service.Service{Prog: 8, Vers: 1, Handle: e.handle}), api.OK)
	c := callOf(t, 2, 1, "abcd")
	c.Prog = 8
	wantHear(t, y, packetOf(t, ann, c), answerTo(t, ann, api.Reply{Xid: 2, Accept: api.ProgUnavail}))
	wantCalled(t, e, heard{1, "abcd"})
	wantCalled(t, f, heard{1, "abcd"})
	wantLog(t, x, entryOf(ann, 1, "abcd", api.Success, "abcd"))
	wantLog(t, y, entryOf(ann, 1, "abcd", api.Success, "abcd"))
	wantQueue(t, x, 1)
	wantQueue(t, y, 0)
}

// TestEmptyServer: one that New did not make does not panic.
func TestEmptyServer(t *testing.T) {
	var s server.Server
	hearAll := func() {
		for _, to := range []int{0, here} {
			p := request(t, ann, 1, 1, "abcd")
			p.To = to
			s.Hear(p)
			s.Hear(api.Packet{From: ann, To: to, Data: "\x00\x00\x00\x09\x00\x00\x00\x00\x00\x00\x00\x03"})
		}
	}
	hearAll()
	wantErrno(t, "Offer", s.Offer(service.Service{Prog: 7, Vers: 2, Procs: []int{1}, Handle: (&ear{}).handle}), api.OK)
	hearAll()
	wantQueue(t, &s, 0)
	wantHeld(t, &s, 0, 0, 0)
	wantLog(t, &s)
	wantIdle(t, &s)
}

// TestServerWithinAHandle: another server than its own a Handle may call.
func TestServerWithinAHandle(t *testing.T) {
	inner, e := example(t)
	outer := serverOf(t, exampleConfig())
	tell := func(args string) (int, string) {
		inner.Hear(request(t, bob, 1, 1, args))
		l, _ := inner.Work()
		return api.Success, l[0].Data[24:] + "!!!!"
	}
	offer(t, outer, 7, 2, (&ear{tell: tell}).handle, 1)
	wantHear(t, outer, request(t, ann, 1, 1, "abcd"))
	wantHear(t, outer, request(t, ann, 2, 1, "efgh"))
	wantWork(t, outer, answerTo(t, ann, api.Reply{Xid: 1, Results: "abcd!!!!"}))
	wantWork(t, outer, answerTo(t, ann, api.Reply{Xid: 2, Accept: api.SystemErr})) // the inner one has nothing to run
	wantCalled(t, e, heard{1, "abcd"})
	wantLog(t, outer, entryOf(ann, 1, "abcd", api.Success, "abcd!!!!"), entryOf(ann, 2, "efgh", api.SystemErr, ""))
}

// TestAtOnce: servers of their own may be used at the same time.
func TestAtOnce(t *testing.T) {
	var requests, replies []api.Packet
	for n := 1; n <= 300; n++ {
		requests = append(requests, request(t, ann, n, max(1, n-2), words(n)))
		replies = append(replies, answerTo(t, ann, api.Reply{Xid: n, Results: words(n)}))
	}
	var all sync.WaitGroup
	for range 8 {
		all.Go(func() {
			s, _ := server.New(exampleConfig())
			wantErrno(t, "Offer", s.Offer(service.Service{Prog: 7, Vers: 2, Procs: []int{1}, Handle: (&ear{}).handle}), api.OK)
			for n := range requests {
				wantHear(t, s, requests[n])
				wantWork(t, s, replies[n])
				wantHear(t, s, requests[n], replies[n])
			}
			if n := len(s.Log()); n != len(requests) {
				t.Errorf("the log has %d", n)
			}
		})
	}
	all.Wait()
}

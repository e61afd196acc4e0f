package server_test

import (
	"slices"
	"strings"
	"testing"

	"callbox/api"
	"callbox/cred"
	"callbox/message"
	"callbox/server"
	"callbox/service"
)

const (
	here = 65647
	ann  = 131072
	bob  = 131073
)

// heard is a call as a Handle was called with it.
type heard struct {
	proc int
	args string
}

// ear is a service's Handle that keeps what it hears; it tells its arguments, unless it is to tell something else.
type ear struct {
	heard []heard
	tell  func(args string) (int, string)
}

func (e *ear) handle(proc int, args string) (int, string) {
	e.heard = append(e.heard, heard{proc, args})
	if e.tell != nil {
		return e.tell(args)
	}
	return api.Success, args
}

func wantErrno(t *testing.T, what string, got, want api.Errno) {
	t.Helper()
	if got != want {
		t.Errorf("%s: %d, not %d", what, got, want)
	}
}

func serverOf(t *testing.T, config api.ServerConfig) *server.Server {
	t.Helper()
	s, e := server.New(config)
	if s == nil || e != api.OK {
		t.Fatalf("New(%v): %d", config, e)
	}
	return s
}

func offer(t *testing.T, s *server.Server, prog, vers int, handle func(int, string) (int, string), procs ...int) {
	t.Helper()
	if e := s.Offer(service.Service{Prog: prog, Vers: vers, Procs: procs, Handle: handle}); e != api.OK {
		t.Fatalf("Offer(%d, %d, %v): %d", prog, vers, procs, e)
	}
}

func exampleConfig() api.ServerConfig {
	return api.ServerConfig{Address: here, Cache: api.CacheConfig{Clients: 2, Entries: 4, Bytes: 800, Reserve: 100}}
}

// example is the server of the chapter's examples.
func example(t *testing.T) (*server.Server, *ear) {
	t.Helper()
	s, e := serverOf(t, exampleConfig()), &ear{}
	offer(t, s, 7, 2, e.handle, 1)
	return s, e
}

func markOf(t *testing.T, instance, sequence, water int) api.Auth {
	t.Helper()
	a, e := cred.PrintMark(api.Mark{Instance: instance, Sequence: sequence, Water: water})
	if e != api.OK {
		t.Fatalf("PrintMark: %d", e)
	}
	return a
}

// callOf is a call of the procedure 1, by the instance 5.
func callOf(t *testing.T, sequence, water int, args string) api.Call {
	t.Helper()
	return api.Call{Xid: sequence, Rpc: 2, Prog: 7, Vers: 2, Proc: 1, Cred: markOf(t, 5, sequence, water), Args: args}
}

func packetOf(t *testing.T, from int, c api.Call) api.Packet {
	t.Helper()
	text, e := message.PrintCall(c)
	if e != api.OK {
		t.Fatalf("PrintCall(%v): %d", c, e)
	}
	return api.Packet{From: from, To: here, Data: text}
}

func request(t *testing.T, from, sequence, water int, args string) api.Packet {
	t.Helper()
	return packetOf(t, from, callOf(t, sequence, water, args))
}

// answerTo is a reply as it is sent.
func answerTo(t *testing.T, to int, r api.Reply) api.Packet {
	t.Helper()
	text, e := message.PrintReply(r)
	if e != api.OK {
		t.Fatalf("PrintReply(%v): %d", r, e)
	}
	return api.Packet{From: here, To: to, Data: text}
}

func wantPackets(t *testing.T, what string, got []api.Packet, want ...api.Packet) {
	t.Helper()
	if !slices.Equal(got, want) {
		t.Errorf("%s: %v, not %v", what, got, want)
	}
}

func wantHear(t *testing.T, s *server.Server, p api.Packet, want ...api.Packet) {
	t.Helper()
	wantPackets(t, "Hear", s.Hear(p), want...)
}

// wantWork: something was run, and that is answered.
func wantWork(t *testing.T, s *server.Server, want api.Packet) {
	t.Helper()
	got, is := s.Work()
	wantPackets(t, "Work", got, want)
	if !is {
		t.Error("Work: nothing has waited")
	}
}

func wantIdle(t *testing.T, s *server.Server) {
	t.Helper()
	if got, is := s.Work(); len(got) != 0 || is {
		t.Errorf("Work: %v, %v, though nothing waits", got, is)
	}
}

func wantQueue(t *testing.T, s *server.Server, want int) {
	t.Helper()
	if got := s.Queue(); got != want {
		t.Errorf("%d wait, not %d", got, want)
	}
}

func wantHeld(t *testing.T, s *server.Server, clients, entries, bytes int) {
	t.Helper()
	if a, b, c := s.Held(); a != clients || b != entries || c != bytes {
		t.Errorf("Held: %d, %d, %d, not %d, %d, %d", a, b, c, clients, entries, bytes)
	}
}

func wantLog(t *testing.T, s *server.Server, want ...api.Entry) {
	t.Helper()
	if got := s.Log(); !slices.Equal(got, want) {
		t.Errorf("the log is %v, not %v", got, want)
	}
}

func wantCalled(t *testing.T, e *ear, want ...heard) {
	t.Helper()
	if !slices.Equal(e.heard, want) {
		t.Errorf("called was %v, not %v", e.heard, want)
	}
}

// entryOf is what stands in the log of a call as callOf makes it.
func entryOf(from, sequence int, args string, accept int, results string) api.Entry {
	return api.Entry{Who: api.Who{Address: from, Instance: 5}, Sequence: sequence, Prog: 7, Vers: 2, Proc: 1, Args: args, Accept: accept, Results: results}
}

// TestOnce is the chapter's first example.
func TestOnce(t *testing.T) {
	s, e := example(t)
	p := request(t, ann, 1, 1, "abcd")
	wantHear(t, s, p)
	wantQueue(t, s, 1)
	wantHear(t, s, p)
	wantQueue(t, s, 1)
	wantHeld(t, s, 1, 1, 100)
	wantCalled(t, e)
	wantLog(t, s)
	reply := answerTo(t, ann, api.Reply{Xid: 1, Results: "abcd"})
	if len(reply.Data) != 28 {
		t.Errorf("the reply has %d bytes", len(reply.Data))
	}
	wantWork(t, s, reply)
	wantQueue(t, s, 0)
	wantHear(t, s, p, reply)
	wantHear(t, s, p, reply)
	wantLog(t, s, entryOf(ann, 1, "abcd", api.Success, "abcd"))
	wantHeld(t, s, 1, 1, 28)
	wantIdle(t, s)
	wantCalled(t, e, heard{1, "abcd"})
}

// TestWater is the chapter's second example.
func TestWater(t *testing.T) {
	s, e := example(t)
	wantHear(t, s, request(t, ann, 2, 1, "two."))
	wantHear(t, s, request(t, ann, 3, 3, "tri."))
	wantQueue(t, s, 1)
	wantWork(t, s, answerTo(t, ann, api.Reply{Xid: 3, Results: "tri."}))
	wantHear(t, s, request(t, ann, 2, 1, "two."))
	wantQueue(t, s, 0)
	wantHeld(t, s, 1, 1, 28)
	wantIdle(t, s)
	wantCalled(t, e, heard{1, "tri."})
	wantLog(t, s, entryOf(ann, 3, "tri.", api.Success, "tri."))
}

// TestRefused is the chapter's third example; nothing changes by it.
func TestRefused(t *testing.T) {
	s, e := example(t)
	for _, x := range []struct {
		turn func(c *api.Call)
		want api.Reply
	}{
		{func(c *api.Call) { c.Vers = 3 }, api.Reply{Accept: api.ProgMismatch, Low: 2, High: 2}},
		{func(c *api.Call) { c.Prog = 8 }, api.Reply{Accept: api.ProgUnavail}},
		{func(c *api.Call) { c.Proc = 9 }, api.Reply{Accept: api.ProcUnavail}},
		{func(c *api.Call) { c.Proc, c.Cred, c.Args = 0, api.Auth{}, "" }, api.Reply{}},
		{func(c *api.Call) { c.Proc, c.Args = 0, "" }, api.Reply{}},
		{func(c *api.Call) { c.Proc = 0 }, api.Reply{Accept: api.GarbageArgs}},
		{func(c *api.Call) { c.Cred = api.Auth{} }, api.Reply{Denied: true, Reject: api.AuthError, Why: api.TooWeak}},
	} {
		c := callOf(t, 4, 2, "abcd")
		x.turn(&c)
		x.want.Xid = 4
		wantHear(t, s, packetOf(t, ann, c), answerTo(t, ann, x.want))
	}
	p := request(t, ann, 4, 2, "abcd")
	p.To = here + 1
	wantHear(t, s, p)
	wantQueue(t, s, 0)
	wantHeld(t, s, 0, 0, 0)
	wantLog(t, s)
	wantIdle(t, s)
	wantCalled(t, e)
}

// TestLong is the chapter's fourth example, with the longest reply that there is room for beside it.
func TestLong(t *testing.T) {
	s, _ := example(t)
	long, fits := strings.Repeat("long", 24), strings.Repeat("fits", 19)
	wantHear(t, s, request(t, ann, 1, 1, long))
	refusal := answerTo(t, ann, api.Reply{Xid: 1, Accept: api.SystemErr})
	wantWork(t, s, refusal)
	wantHear(t, s, request(t, ann, 1, 1, long), refusal)
	wantHeld(t, s, 1, 1, 24)
	wantLog(t, s, entryOf(ann, 1, long, api.Success, long))
	wantHear(t, s, request(t, ann, 2, 1, fits))
	wantWork(t, s, answerTo(t, ann, api.Reply{Xid: 2, Results: fits}))
	wantHeld(t, s, 1, 2, 124)
	wantLog(t, s, entryOf(ann, 1, long, api.Success, long), entryOf(ann, 2, fits, api.Success, fits))
}

// TestOneClientOnly is DOC.md's fifth example: where there is no room for a client, it is refused as often as it comes.
func TestOneClientOnly(t *testing.T) {
	config := exampleConfig()
	config.Cache.Clients = 1
	s := serverOf(t, config)
	offer(t, s, 7, 2, (&ear{}).handle, 1)
	wantHear(t, s, request(t, ann, 1, 1, ""))
	for range 3 {
		wantHear(t, s, request(t, bob, 1, 1, ""), answerTo(t, bob, api.Reply{Xid: 1, Accept: api.SystemErr}))
	}
	wantWork(t, s, answerTo(t, ann, api.Reply{Xid: 1}))
	wantHear(t, s, request(t, bob, 1, 1, ""), answerTo(t, bob, api.Reply{Xid: 1, Accept: api.SystemErr}))
	wantHeld(t, s, 1, 1, 24)
}

package server_test

import (
	"math"
	"strings"
	"testing"

	"callbox/api"
	"callbox/cred"
	"callbox/server"
	"callbox/service"
)

// edges are numbers at, and beside, the least and the greatest address, and far off.
var edges = []int{0, 1, 2, -1, 1<<24 - 2, 1<<24 - 1, 1 << 24, 1<<24 + 1, 1<<25 - 1, -(1<<24 - 1), here, here - 1, here + 1, 1 << 32, 1<<32 + 1, 1<<32 + here, math.MaxInt, math.MinInt}

func address(n int) bool { return n > 0 && n>>24 == 0 }

// TestAddressOfAServer is S1.
func TestAddressOfAServer(t *testing.T) {
	for _, n := range edges {
		config := exampleConfig()
		config.Address = n
		s, e := server.New(config)
		if !address(n) {
			if s != nil || e != api.ErrServerConfig {
				t.Errorf("%d: %v, %d", n, s, e)
			}
			continue
		}
		if s == nil || e != api.OK {
			t.Fatalf("%d: %d", n, e)
		}
		offer(t, s, 7, 2, (&ear{}).handle, 1)
		p := request(t, ann, 1, 1, "abcd")
		p.To = n
		wantHear(t, s, p)
		reply := answerTo(t, ann, api.Reply{Xid: 1, Results: "abcd"})
		reply.From = n
		wantWork(t, s, reply)
		wantHear(t, s, p, reply)
	}
}

// TestCacheOfAServer is S1: what layer 15 refuses is refused, whatever it is told for.
func TestCacheOfAServer(t *testing.T) {
	for _, x := range []struct {
		turn func(c *api.CacheConfig)
		may  bool
	}{
		{func(c *api.CacheConfig) {}, true},
		{func(c *api.CacheConfig) { *c = api.CacheConfig{} }, false},
		{func(c *api.CacheConfig) { c.Clients = 0 }, false},
		{func(c *api.CacheConfig) { c.Clients = 64 }, true},
		{func(c *api.CacheConfig) { c.Clients = 65 }, false},
		{func(c *api.CacheConfig) { c.Entries = 0 }, false},
		{func(c *api.CacheConfig) { c.Entries = 64 }, true},
		{func(c *api.CacheConfig) { c.Entries = 65 }, false},
		{func(c *api.CacheConfig) { c.Reserve = 63 }, false},
		{func(c *api.CacheConfig) { c.Reserve = 64 }, true},
		{func(c *api.CacheConfig) { c.Reserve, c.Bytes = 1100, 1100 }, true},
		{func(c *api.CacheConfig) { c.Reserve, c.Bytes = 1101, 1101 }, false},
		{func(c *api.CacheConfig) { c.Bytes = 99 }, false},
		{func(c *api.CacheConfig) { c.Bytes = 100 }, true},
		{func(c *api.CacheConfig) { c.Bytes = 1 << 20 }, true},
		{func(c *api.CacheConfig) { c.Bytes = 1<<20 + 1 }, false},
	} {
		config := exampleConfig()
		x.turn(&config.Cache)
		s, e := server.New(config)
		if x.may && (s == nil || e != api.OK) || !x.may && (s != nil || e != api.ErrServerConfig) {
			t.Errorf("%v: %d", config, e)
		}
		config.Address = 0
		if s, e := server.New(config); s != nil || e != api.ErrServerConfig {
			t.Errorf("%v: %d", config, e)
		}
	}
}

// TestNew is S1: it offers nothing, knows nobody, has run nothing.
func TestNew(t *testing.T) {
	s := serverOf(t, exampleConfig())
	wantQueue(t, s, 0)
	wantLog(t, s)
	wantHeld(t, s, 0, 0, 0)
	wantIdle(t, s)
	wantHear(t, s, request(t, ann, 1, 1, ""), answerTo(t, ann, api.Reply{Xid: 1, Accept: api.ProgUnavail}))
	c := callOf(t, 1, 1, "")
	c.Proc = 0
	wantHear(t, s, packetOf(t, ann, c), answerTo(t, ann, api.Reply{Xid: 1, Accept: api.ProgUnavail}))
}

// TestOffer is S1's last word, with the errors of layer 18 in their order; the registry's methods are the server's.
func TestOffer(t *testing.T) {
	s, e := example(t)
	handle := e.handle
	wantErrno(t, "no Handle", s.Offer(service.Service{Prog: 7, Vers: 2}), api.ErrServiceForm)
	wantErrno(t, "no word", s.Offer(service.Service{Prog: 1 << 32, Vers: 2, Handle: handle}), api.ErrServiceForm)
	wantErrno(t, "falling", s.Offer(service.Service{Prog: 7, Vers: 3, Procs: []int{2, 1}, Handle: handle}), api.ErrServiceForm)
	wantErrno(t, "twice", s.Offer(service.Service{Prog: 7, Vers: 2, Procs: []int{9}, Handle: handle}), api.ErrServiceTwice)
	for n := 1; n < 16; n++ {
		offer(t, s, 8, 2*n, handle, n)
	}
	wantErrno(t, "one more", s.Offer(service.Service{Prog: 9, Vers: 1, Handle: handle}), api.ErrServiceMany)
	wantErrno(t, "one more, twice", s.Offer(service.Service{Prog: 8, Vers: 2, Handle: handle}), api.ErrServiceTwice)
	c := callOf(t, 1, 1, "")
	c.Prog, c.Vers = 8, 3
	wantHear(t, s, packetOf(t, ann, c), answerTo(t, ann, api.Reply{Xid: 1, Accept: api.ProgMismatch, Low: 2, High: 30}))
	c.Vers, c.Proc = 30, 15
	wantHear(t, s, packetOf(t, ann, c))
	wantWork(t, s, answerTo(t, ann, api.Reply{Xid: 1}))
	if a, low, high := s.Find(8, 31, 1); a != api.ProgMismatch || low != 2 || high != 30 {
		t.Errorf("Find: %d, %d, %d", a, low, high)
	}
	if a, results := s.Run(7, 2, 1, "abcd"); a != api.Success || results != "abcd" {
		t.Errorf("Run: %d, %q", a, results)
	}
	wantCalled(t, e, heard{15, ""}, heard{1, "abcd"})
}

// TestOfferedLater: a call is known by what is offered when it is heard; what is offered between changes nothing of it.
func TestOfferedLater(t *testing.T) {
	s, _ := example(t)
	c := callOf(t, 1, 1, "abcd")
	c.Vers = 3
	wantHear(t, s, packetOf(t, ann, c), answerTo(t, ann, api.Reply{Xid: 1, Accept: api.ProgMismatch, Low: 2, High: 2}))
	wantHear(t, s, request(t, ann, 2, 1, "abcd"))
	other := &ear{tell: func(string) (int, string) { return api.Success, "more" }}
	offer(t, s, 7, 3, other.handle, 1)
	wantHear(t, s, packetOf(t, ann, c))
	wantWork(t, s, answerTo(t, ann, api.Reply{Xid: 2, Results: "abcd"}))
	wantWork(t, s, answerTo(t, ann, api.Reply{Xid: 1, Results: "more"}))
}

// TestAddresses is S2's first step.
func TestAddresses(t *testing.T) {
	s, _ := example(t)
	waiting := 0
	for _, from := range edges {
		for _, to := range edges {
			c := callOf(t, 1, 1, "abcd")
			c.Proc = 0
			p := packetOf(t, from, c)
			p.To = to
			if to == here && address(from) {
				wantHear(t, s, p, answerTo(t, from, api.Reply{Xid: 1, Accept: api.GarbageArgs}))
			} else {
				wantHear(t, s, p)
				p.Data = "\x00\x00\x00\x09\x00\x00\x00\x00\x00\x00\x00\x03"
				wantHear(t, s, p)
				p.Data = request(t, ann, 1, 1, "abcd").Data
				wantHear(t, s, p)
			}
			wantQueue(t, s, waiting)
			wantHeld(t, s, 0, 0, 0)
		}
	}
}

// TestOwnAddress: a call may come from where the server is.
func TestOwnAddress(t *testing.T) {
	s, _ := example(t)
	wantHear(t, s, request(t, here, 1, 1, "abcd"))
	wantWork(t, s, answerTo(t, here, api.Reply{Xid: 1, Results: "abcd"}))
}

// TestNoCalls is S2's first step: bytes that are no call are not answered.
func TestNoCalls(t *testing.T) {
	s, _ := example(t)
	good := request(t, ann, 1, 1, "abcd").Data
	reply := answerTo(t, ann, api.Reply{Xid: 1}).Data
	texts := []string{"", reply, good + "x", good + "\x00\x00\x00\x00"[:3], good + strings.Repeat("abcd", 250), strings.Repeat("\xff", 1500), strings.Repeat("\x00", 11)}
	// Without its last four bytes, the arguments, it is a call all the same.
	for n := range good {
		if n != len(good)-4 {
			texts = append(texts, good[:n])
		}
	}
	for _, text := range texts {
		wantHear(t, s, api.Packet{From: ann, To: here, Data: text})
		wantQueue(t, s, 0)
		wantHeld(t, s, 0, 0, 0)
	}
	wantHear(t, s, api.Packet{From: ann, To: here, Data: good[:len(good)-4]})
	wantQueue(t, s, 1)
}

// TestOtherVersions is S2's second step: of another version of calls nothing else is looked at.
func TestOtherVersions(t *testing.T) {
	s, _ := example(t)
	for _, rpc := range []string{"\x00\x00\x00\x00", "\x00\x00\x00\x01", "\x00\x00\x00\x03", "\x01\x00\x00\x02", "\xff\xff\xff\xff"} {
		for _, behind := range []string{"", "x", strings.Repeat("\xff", 1400), request(t, ann, 1, 1, "abcd").Data[12:]} {
			p := api.Packet{From: ann, To: here, Data: "\xff\x00\x00\x09\x00\x00\x00\x00" + rpc + behind}
			wantHear(t, s, p, answerTo(t, ann, api.Reply{Xid: 0xff000009, Denied: true, Reject: api.RpcMismatch, Low: 2, High: 2}))
			p.Data = "\xff\x00\x00\x09\x00\x00\x00\x01" + rpc + behind
			wantHear(t, s, p)
		}
	}
	wantQueue(t, s, 0)
	wantHeld(t, s, 0, 0, 0)
}

// fault is something for which a call is answered at once.
type fault struct {
	name string
	turn func(c *api.Call)
	want api.Reply
}

// faults are those of S2's steps 3 to 6, each told ahead of all behind it. (Without a mark a call may have no faulty one, so the last one takes it away alone.)
func faults(t *testing.T) []fault {
	t.Helper()
	denied := func(why int) api.Reply { return api.Reply{Denied: true, Reject: api.AuthError, Why: why} }
	return []fault{
		{"another flavor", func(c *api.Call) { c.Cred.Flavor = 9 }, denied(api.RejectedCred)},
		{"a water above the sequence", func(c *api.Call) { c.Cred = markOf(t, 5, 1, 2) }, denied(api.BadCred)},
		{"a mark with a byte more", func(c *api.Call) { c.Cred.Body += "\x00" }, denied(api.BadCred)},
		{"another sequence", func(c *api.Call) { c.Cred = markOf(t, 5, 2, 1) }, denied(api.BadCred)},
		{"a body of nobody's", func(c *api.Call) { c.Cred.Flavor = api.AuthNone }, denied(api.BadCred)},
		{"a verifier", func(c *api.Call) { c.Verf.Flavor = api.AuthSys }, denied(api.BadVerf)},
		{"a verifier's body", func(c *api.Call) { c.Verf.Body = "a" }, denied(api.BadVerf)},
		{"another program", func(c *api.Call) { c.Prog = 8 }, api.Reply{Accept: api.ProgUnavail}},
		{"another version", func(c *api.Call) { c.Vers = 3 }, api.Reply{Accept: api.ProgMismatch, Low: 2, High: 2}},
		{"another procedure", func(c *api.Call) { c.Proc = 9 }, api.Reply{Accept: api.ProcUnavail}},
		{"procedure 0", func(c *api.Call) { c.Proc = 0 }, api.Reply{Accept: api.GarbageArgs}},
		{"no mark", func(c *api.Call) { c.Cred = api.Auth{} }, denied(api.TooWeak)},
	}
}

// TestStepsInOrder is S2: of two faults the one of the first step is told; and a full cache is told behind all of them.
func TestStepsInOrder(t *testing.T) {
	config := exampleConfig()
	config.Cache.Bytes = 100
	for _, full := range []bool{false, true} {
		s := serverOf(t, config)
		offer(t, s, 7, 2, (&ear{}).handle, 1)
		entries := 0
		if full {
			wantHear(t, s, request(t, bob, 1, 1, ""))
			wantHear(t, s, request(t, ann, 1, 1, ""), answerTo(t, ann, api.Reply{Xid: 1, Accept: api.SystemErr}))
			entries = 1
		}
		all := faults(t)
		for i, x := range all {
			for j := i; j < len(all); j++ {
				y := all[j]
				if y.name == "no mark" && x.want.Reject == api.AuthError && x.want.Why < api.BadVerf {
					continue
				}
				c := callOf(t, 1, 1, "abcd")
				y.turn(&c)
				if i != j {
					x.turn(&c)
				}
				want := x.want
				if x.want.Denied && y.want.Denied && x.want.Why > y.want.Why {
					want = y.want
				}
				// Of a credential of another flavor its body is nothing.
				if c.Cred.Flavor == 9 {
					want = all[0].want
				}
				want.Xid = 1
				if got := s.Hear(packetOf(t, ann, c)); len(got) != 1 || got[0] != answerTo(t, ann, want) {
					t.Errorf("%s, and %s: %v, not %v", x.name, y.name, got, want)
				}
			}
		}
		wantQueue(t, s, entries)
		wantHeld(t, s, entries, entries, 100*entries)
	}
}

// TestSomebodyIsTooWeak is S2's sixth step: who says who they are has no mark all the same.
func TestSomebodyIsTooWeak(t *testing.T) {
	s, e := example(t)
	sys, _ := cred.PrintSys(api.Sys{Stamp: 1, Machine: "m", Groups: []int{1}})
	for _, a := range []api.Auth{{}, sys} {
		c := api.Call{Xid: 0, Rpc: 2, Prog: 7, Vers: 2, Proc: 1, Cred: a}
		wantHear(t, s, packetOf(t, ann, c), answerTo(t, ann, api.Reply{Denied: true, Reject: api.AuthError, Why: api.TooWeak}))
		c.Proc = 0
		wantHear(t, s, packetOf(t, ann, c), answerTo(t, ann, api.Reply{}))
	}
	sys.Body += "x"
	c := api.Call{Rpc: 2, Prog: 7, Vers: 2, Proc: 1, Cred: sys}
	wantHear(t, s, packetOf(t, ann, c), answerTo(t, ann, api.Reply{Denied: true, Reject: api.AuthError, Why: api.BadCred}))
	wantCalled(t, e)
}

// TestProcedureNought is S2's fifth step: with a mark or without one, it asks nothing of the cache: its water is not heard, and it is answered where the cache is full, and once more, too.
func TestProcedureNought(t *testing.T) {
	s, e := example(t)
	wantHear(t, s, request(t, ann, 1, 1, "abcd"))
	c := callOf(t, 1, 1, "")
	c.Proc = 0
	for range 2 {
		wantHear(t, s, packetOf(t, ann, c), answerTo(t, ann, api.Reply{Xid: 1}))
	}
	c.Xid, c.Cred = 9, markOf(t, 5, 9, 9)
	wantHear(t, s, packetOf(t, ann, c), answerTo(t, ann, api.Reply{Xid: 9}))
	for n := range 3 {
		wantHear(t, s, packetOf(t, ann+n, c), answerTo(t, ann+n, api.Reply{Xid: 9}))
	}
	wantQueue(t, s, 1)
	wantHeld(t, s, 1, 1, 100)
	wantWork(t, s, answerTo(t, ann, api.Reply{Xid: 1, Results: "abcd"}))
	wantIdle(t, s)
	wantCalled(t, e, heard{1, "abcd"})
	wantLog(t, s, entryOf(ann, 1, "abcd", api.Success, "abcd"))
}

// TestRefusedSaysNoWater is S5's last word: what is refused in a step ahead says nothing to the cache, though its mark says a water.
func TestRefusedSaysNoWater(t *testing.T) {
	s, _ := example(t)
	wantHear(t, s, request(t, ann, 1, 1, "abcd"))
	for _, turn := range []func(c *api.Call){
		func(c *api.Call) { c.Prog = 8 },
		func(c *api.Call) { c.Vers = 3 },
		func(c *api.Call) { c.Proc = 9 },
		func(c *api.Call) { c.Proc = 0 },
		func(c *api.Call) { c.Verf.Flavor = 1 },
		func(c *api.Call) { c.Xid = 8 },
	} {
		c := callOf(t, 9, 9, "abcd")
		turn(&c)
		if l := s.Hear(packetOf(t, ann, c)); len(l) != 1 {
			t.Errorf("%v: %v", c, l)
		}
		wantQueue(t, s, 1)
		wantHeld(t, s, 1, 1, 100)
	}
	wantWork(t, s, answerTo(t, ann, api.Reply{Xid: 1, Results: "abcd"}))
}

// TestWhatIsTold is S3: what stands in the log, what is sent and kept, of whatever a Handle tells.
func TestWhatIsTold(t *testing.T) {
	text := func(n int) string { return strings.Repeat("abcd", 300)[:n] }
	for _, x := range []struct {
		name    string
		tell    func(string) (int, string)
		accept  int
		results int
		sent    int
	}{
		{"nothing", func(string) (int, string) { return api.Success, "" }, api.Success, 0, api.Success},
		{"as much as there is room for", func(string) (int, string) { return api.Success, text(200) }, api.Success, 200, api.Success},
		{"four bytes more", func(string) (int, string) { return api.Success, text(204) }, api.Success, 204, api.SystemErr},
		{"the most that there may be", func(string) (int, string) { return api.Success, text(1000) }, api.Success, 1000, api.SystemErr},
		{"more", func(string) (int, string) { return api.Success, text(1004) }, api.SystemErr, 0, api.SystemErr},
		{"no multiple of four", func(string) (int, string) { return api.Success, text(5) }, api.SystemErr, 0, api.SystemErr},
		{"a system's error", func(string) (int, string) { return api.SystemErr, text(4) }, api.SystemErr, 0, api.SystemErr},
		{"garbage", func(string) (int, string) { return api.GarbageArgs, text(4) }, api.GarbageArgs, 0, api.GarbageArgs},
		{"no program", func(string) (int, string) { return api.ProgUnavail, "" }, api.SystemErr, 0, api.SystemErr},
		{"versions", func(string) (int, string) { return api.ProgMismatch, "" }, api.SystemErr, 0, api.SystemErr},
		{"something else", func(string) (int, string) { return 9, text(4) }, api.SystemErr, 0, api.SystemErr},
		{"less", func(string) (int, string) { return -1, text(4) }, api.SystemErr, 0, api.SystemErr},
		{"a panic", func(args string) (int, string) { panic(args) }, api.SystemErr, 0, api.SystemErr},
		{"a panic of nothing", func(args string) (int, string) { panic(nil) }, api.SystemErr, 0, api.SystemErr},
	} {
		config := exampleConfig()
		config.Cache.Bytes, config.Cache.Reserve = 900, 224
		s, e := serverOf(t, config), &ear{tell: x.tell}
		offer(t, s, 7, 2, e.handle, 1)
		p := request(t, ann, 3, 2, "args")
		wantHear(t, s, p)
		want := api.Reply{Xid: 3, Accept: x.sent}
		if x.sent == api.Success {
			want.Results = text(x.results)
		}
		reply := answerTo(t, ann, want)
		wantWork(t, s, reply)
		wantHear(t, s, p, reply)
		wantHear(t, s, p, reply)
		wantHeld(t, s, 1, 1, len(reply.Data))
		wantIdle(t, s)
		wantCalled(t, e, heard{1, "args"})
		if x.accept == api.GarbageArgs {
			wantLog(t, s)
		} else {
			wantLog(t, s, entryOf(ann, 3, "args", x.accept, text(x.results)))
		}
		if t.Failed() {
			t.Fatalf("so it was of %s", x.name)
		}
	}
}

// TestReserves is S3: the longest reply that is sent has just as many bytes as are reserved, whatever that is.
func TestReserves(t *testing.T) {
	for _, reserve := range []int{64, 65, 66, 67, 68, 100, 101, 1020, 1023, 1024, 1025, 1028, 1099, 1100} {
		config := exampleConfig()
		config.Cache = api.CacheConfig{Clients: 1, Entries: 4, Bytes: 4 * reserve, Reserve: reserve}
		s := serverOf(t, config)
		offer(t, s, 7, 2, (&ear{}).handle, 1)
		most := min((reserve-24)/4*4, 1000)
		for i, n := range []int{most - 4, most, most + 4} {
			if n > 1000 {
				continue
			}
			args := strings.Repeat("r", n)
			wantHear(t, s, request(t, ann, 1+i, 1, args))
			want := api.Reply{Xid: 1 + i, Results: args}
			if n > most {
				want = api.Reply{Xid: 1 + i, Accept: api.SystemErr}
			}
			wantWork(t, s, answerTo(t, ann, want))
		}
	}
}

// TestFull is S2's seventh step: a client that has as many entries as may be, and bytes that are all reserved, are refused as often as they come; nothing else is refused.
func TestFull(t *testing.T) {
	s, _ := example(t)
	full := func(from, sequence int) api.Packet {
		return answerTo(t, from, api.Reply{Xid: sequence, Accept: api.SystemErr})
	}
	for n := 1; n <= 4; n++ {
		wantHear(t, s, request(t, ann, n, 1, "abcd"))
	}
	wantHear(t, s, request(t, ann, 5, 1, "abcd"), full(ann, 5))
	wantHear(t, s, request(t, ann, 5, 1, "abcd"), full(ann, 5))
	wantHear(t, s, request(t, ann, 4, 1, "abcd"))
	for n := 1; n <= 4; n++ {
		wantHear(t, s, request(t, bob, n, 1, "abcd"))
	}
	wantQueue(t, s, 8)
	wantHeld(t, s, 2, 8, 800)
	wantHear(t, s, request(t, ann, 5, 1, "abcd"), full(ann, 5))
	wantHear(t, s, request(t, bob+1, 1, 1, "abcd"), full(bob+1, 1))
	wantWork(t, s, answerTo(t, ann, api.Reply{Xid: 1, Results: "abcd"}))
	wantHear(t, s, request(t, ann, 5, 1, "abcd"), full(ann, 5))
	wantHear(t, s, request(t, ann, 5, 2, "abcd"))
	wantHeld(t, s, 2, 8, 800)
	wantHear(t, s, request(t, ann, 1, 1, "abcd"))
	// A call that has no room lets go what lies below its water.
	wantHear(t, s, request(t, bob, 9, 1, "abcd"), full(bob, 9))
	wantHeld(t, s, 2, 8, 800)
	for n := 2; n <= 5; n++ {
		wantWork(t, s, answerTo(t, map[bool]int{true: ann, false: bob}[n <= 4], api.Reply{Xid: []int{2, 3, 4, 1}[n-2], Results: "abcd"}))
	}
	wantQueue(t, s, 4)
}

// TestFullLetsGo is S2's seventh step: also a call that is refused for want of room says its water, below which nothing waits on.
func TestFullLetsGo(t *testing.T) {
	config := exampleConfig()
	config.Cache = api.CacheConfig{Clients: 2, Entries: 4, Bytes: 299, Reserve: 100}
	s, e := serverOf(t, config), &ear{}
	offer(t, s, 7, 2, e.handle, 1)
	wantHear(t, s, request(t, ann, 1, 1, "one."))
	wantHear(t, s, request(t, bob, 1, 1, "two."))
	wantWork(t, s, answerTo(t, ann, api.Reply{Xid: 1, Results: "one."}))
	wantHear(t, s, request(t, ann, 2, 1, "tri."))
	wantHeld(t, s, 2, 3, 228)
	wantQueue(t, s, 2)
	// The answer 1 goes, and the 100 bytes of 2 stay: there is no room for another 100 still.
	wantHear(t, s, request(t, ann, 3, 2, "four"), answerTo(t, ann, api.Reply{Xid: 3, Accept: api.SystemErr}))
	wantHeld(t, s, 2, 2, 200)
	wantQueue(t, s, 2)
	wantHear(t, s, request(t, ann, 3, 3, "four"))
	wantHeld(t, s, 2, 2, 200)
	wantQueue(t, s, 2)
	wantWork(t, s, answerTo(t, bob, api.Reply{Xid: 1, Results: "two."}))
	wantWork(t, s, answerTo(t, ann, api.Reply{Xid: 3, Results: "four"}))
	wantCalled(t, e, heard{1, "one."}, heard{1, "two."}, heard{1, "four"})
}

// TestWaterOfWhatComesAgain: a call that waits, or was answered, and comes again with a higher water lets others go that wait, of its client alone; order and all else stay.
func TestWaterOfWhatComesAgain(t *testing.T) {
	for _, run := range []int{0, 1} {
		s, e := example(t)
		last := request(t, ann, 4, 1, "four")
		wantHear(t, s, last)
		wantHear(t, s, request(t, ann, 2, 1, "two."))
		wantHear(t, s, request(t, bob, 1, 1, "bob1"))
		wantHear(t, s, request(t, ann, 3, 1, "tri."))
		wantHear(t, s, request(t, bob, 2, 1, "bob2"))
		if run == 1 {
			wantWork(t, s, answerTo(t, ann, api.Reply{Xid: 4, Results: "four"}))
			wantHear(t, s, request(t, ann, 4, 3, "four"), answerTo(t, ann, api.Reply{Xid: 4, Results: "four"}))
		} else {
			wantHear(t, s, request(t, ann, 4, 3, "four"))
		}
		wantQueue(t, s, 4-run)
		wantHear(t, s, request(t, ann, 2, 1, "two."))
		if run == 0 {
			wantWork(t, s, answerTo(t, ann, api.Reply{Xid: 4, Results: "four"}))
		}
		wantWork(t, s, answerTo(t, bob, api.Reply{Xid: 1, Results: "bob1"}))
		wantWork(t, s, answerTo(t, ann, api.Reply{Xid: 3, Results: "tri."}))
		wantWork(t, s, answerTo(t, bob, api.Reply{Xid: 2, Results: "bob2"}))
		wantIdle(t, s)
		wantCalled(t, e, heard{1, "four"}, heard{1, "bob1"}, heard{1, "tri."}, heard{1, "bob2"})
	}
}

// TestFirstOneCounts is S5: of calls of one identity the first one is run, whatever the others call, and the others are answered as it was.
func TestFirstOneCounts(t *testing.T) {
	s, e := serverOf(t, exampleConfig()), &ear{}
	offer(t, s, 7, 2, e.handle, 1, 2)
	offer(t, s, 8, 9, e.handle, 3)
	first := request(t, ann, 1, 1, "abcd")
	others := func() []api.Packet {
		c, d, f := callOf(t, 1, 1, "abcd"), callOf(t, 1, 1, "wxyz"), callOf(t, 1, 1, "")
		c.Proc = 2
		f.Prog, f.Vers, f.Proc = 8, 9, 3
		return []api.Packet{packetOf(t, ann, c), packetOf(t, ann, d), packetOf(t, ann, f)}
	}()
	wantHear(t, s, first)
	for _, p := range others {
		wantHear(t, s, p)
	}
	wantQueue(t, s, 1)
	reply := answerTo(t, ann, api.Reply{Xid: 1, Results: "abcd"})
	wantWork(t, s, reply)
	for _, p := range append(others, first) {
		wantHear(t, s, p, reply)
	}
	wantCalled(t, e, heard{1, "abcd"})
	wantLog(t, s, entryOf(ann, 1, "abcd", api.Success, "abcd"))
}

// TestClientsAreApart: another address, or another instance at the same one, is another client.
func TestClientsAreApart(t *testing.T) {
	config := exampleConfig()
	config.Cache = api.CacheConfig{Clients: 64, Entries: 1, Bytes: 1 << 20, Reserve: 64}
	s, e := serverOf(t, config), &ear{}
	offer(t, s, 7, 2, e.handle, 1)
	var want []api.Entry
	var replies []api.Packet
	for _, from := range []int{ann, bob, 1, 1<<24 - 1} {
		for _, instance := range []int{1, 5, 1 << 32, 1<<32 + 1, 1<<62 - 1, 1 << 62} {
			c := callOf(t, 1, 1, words(len(want)))
			c.Cred = markOf(t, instance, 1, 1)
			wantHear(t, s, packetOf(t, from, c))
			want = append(want, api.Entry{Who: api.Who{Address: from, Instance: instance}, Sequence: 1, Prog: 7, Vers: 2, Proc: 1, Args: c.Args, Results: c.Args})
			replies = append(replies, answerTo(t, from, api.Reply{Xid: 1, Results: c.Args}))
		}
	}
	wantQueue(t, s, len(want))
	for _, p := range replies {
		wantWork(t, s, p)
	}
	wantLog(t, s, want...)
	wantHeld(t, s, len(want), len(want), 28*len(want))
}

// TestEdgesOfMarks: the greatest sequences, and waters, are as all others.
func TestEdgesOfMarks(t *testing.T) {
	s, e := example(t)
	const last = 1<<32 - 1
	wantHear(t, s, request(t, ann, last-1, 1, "last"))
	wantHear(t, s, request(t, ann, last, last, "end."))
	wantQueue(t, s, 1)
	wantWork(t, s, answerTo(t, ann, api.Reply{Xid: last, Results: "end."}))
	wantHear(t, s, request(t, ann, 1, 1, "old."))
	wantHear(t, s, request(t, ann, last-1, 1, "last"))
	wantHear(t, s, request(t, ann, last, last, "end."), answerTo(t, ann, api.Reply{Xid: last, Results: "end."}))
	wantIdle(t, s)
	wantCalled(t, e, heard{1, "end."})
}

// TestMost: as many wait as a cache can have; all are run, in their order.
func TestMost(t *testing.T) {
	config := exampleConfig()
	config.Cache = api.CacheConfig{Clients: 64, Entries: 64, Bytes: 1 << 20, Reserve: 64}
	s, e := serverOf(t, config), &ear{}
	offer(t, s, 7, 2, e.handle, 1)
	for n := range 64 * 64 {
		wantHear(t, s, request(t, 1+n%64, 1+n/64, 1, words(n)))
	}
	wantQueue(t, s, 4096)
	wantHeld(t, s, 64, 4096, 64*4096)
	wantHear(t, s, request(t, 1, 65, 1, ""), answerTo(t, 1, api.Reply{Xid: 65, Accept: api.SystemErr}))
	wantHear(t, s, request(t, 65, 1, 1, ""), answerTo(t, 65, api.Reply{Xid: 1, Accept: api.SystemErr}))
	for n := range 64 * 64 {
		wantWork(t, s, answerTo(t, 1+n%64, api.Reply{Xid: 1 + n/64, Results: words(n)}))
		wantQueue(t, s, 4095-n)
	}
	wantIdle(t, s)
	wantHeld(t, s, 64, 4096, 28*4096)
	log := s.Log()
	for n := range 64 * 64 {
		if len(log) != 4096 || log[n] != entryOf(1+n%64, 1+n/64, words(n), api.Success, words(n)) || e.heard[n] != (heard{1, words(n)}) {
			t.Fatalf("the log, or what was called, is another one at %d", n)
		}
	}
}

package client_test

import (
	"math"
	"strings"
	"testing"

	"callbox/api"
	"callbox/client"
)

const mostWait = 1 << 20

// TestWrongConfigs is C1: each bound, one beyond, and far beyond.
func TestWrongConfigs(t *testing.T) {
	for name, spoil := range map[string]func(c *api.ClientConfig){
		"address 0":         func(c *api.ClientConfig) { c.Address = 0 },
		"address -1":        func(c *api.ClientConfig) { c.Address = -1 },
		"address 2^24":      func(c *api.ClientConfig) { c.Address = 1 << 24 },
		"address 2^32 + 1":  func(c *api.ClientConfig) { c.Address = 1<<32 + 1 },
		"the least address": func(c *api.ClientConfig) { c.Address = math.MinInt },
		"instance 0":        func(c *api.ClientConfig) { c.Instance = 0 },
		"instance -1":       func(c *api.ClientConfig) { c.Instance = -1 },
		"instance 2^62 + 1": func(c *api.ClientConfig) { c.Instance = 1<<62 + 1 },
		"a great instance":  func(c *api.ClientConfig) { c.Instance = math.MaxInt },
		"first 0":           func(c *api.ClientConfig) { c.First = 0 },
		"first -1":          func(c *api.ClientConfig) { c.First = -1 },
		"first 2^32":        func(c *api.ClientConfig) { c.First = 1 << 32 },
		"first 2^32 + 1":    func(c *api.ClientConfig) { c.First = 1<<32 + 1 },
		"window 0":          func(c *api.ClientConfig) { c.Window = 0 },
		"window -1":         func(c *api.ClientConfig) { c.Window = -1 },
		"window 65":         func(c *api.ClientConfig) { c.Window = 65 },
		"a great window":    func(c *api.ClientConfig) { c.Window = math.MaxInt },
		"base 0":            func(c *api.ClientConfig) { c.Pace.Base = 0 },
		"base above cap":    func(c *api.ClientConfig) { c.Pace.Base = 9 },
		"cap 2^20 + 1":      func(c *api.ClientConfig) { c.Pace.Cap = mostWait + 1 },
		"tries 0":           func(c *api.ClientConfig) { c.Pace.Tries = 0 },
		"tries 33":          func(c *api.ClientConfig) { c.Pace.Tries = 33 },
		"stamp -1":          func(c *api.ClientConfig) { c.Sys.Stamp = -1 },
		"a long machine":    func(c *api.ClientConfig) { c.Sys.Machine = strings.Repeat("m", 256) },
		"user 2^32":         func(c *api.ClientConfig) { c.Sys.User = 1 << 32 },
		"group -1":          func(c *api.ClientConfig) { c.Sys.Group = -1 },
		"17 groups":         func(c *api.ClientConfig) { c.Sys.Groups = make([]int, 17) },
		"a group of -1":     func(c *api.ClientConfig) { c.Sys.Groups = []int{1, -1, 1} },
		"nothing":           func(c *api.ClientConfig) { *c = api.ClientConfig{} },
	} {
		config := exampleConfig()
		spoil(&config)
		if c, e := client.New(config); c != nil || e != api.ErrClientConfig {
			t.Errorf("%s: %v, %d", name, c, e)
		}
	}
}

// greatConfig has the last number within each bound.
func greatConfig() api.ClientConfig {
	groups := make([]int, 16)
	for i := range groups {
		groups[i] = 1<<32 - 1 - i
	}
	return api.ClientConfig{
		Address: 1<<24 - 1, Instance: 1 << 62, First: 1<<32 - 1, Window: 64,
		Pace: api.Pace{Base: mostWait, Cap: mostWait, Tries: 32},
		Sys:  api.Sys{Stamp: 1<<32 - 1, Machine: strings.Repeat("m", 255), User: 1<<32 - 1, Group: 1<<32 - 1, Groups: groups},
	}
}

func smallConfig() api.ClientConfig {
	return api.ClientConfig{Address: 1, Instance: 1, First: 1, Window: 1, Pace: api.Pace{Base: 1, Cap: 1, Tries: 1}}
}

// TestConfigsAtTheEdges is C1: what is just within may be, and its requests say it.
func TestConfigsAtTheEdges(t *testing.T) {
	for _, config := range []api.ClientConfig{smallConfig(), greatConfig()} {
		c := clientOf(t, config)
		args := strings.Repeat("\xff", 1000)
		if n, e := c.Call(1<<24-1, 1<<32-1, 1<<32-1, 1<<32-1, args); n != config.First || e != api.OK {
			t.Fatalf("Call: %d, %d", n, e)
		}
		due := c.Due()
		if len(due) != 1 || len(due[0].Data) > api.MaxDatagram {
			t.Fatalf("due: %v", due)
		}
		r := readRequest(t, due[0])
		m := newModel(config)
		m.call(1<<24-1, 1<<32-1, 1<<32-1, 1<<32-1, args)
		if due[0] != m.request(m.calls[0]) || r.mark.Instance != config.Instance || r.call.Args != args {
			t.Errorf("the request is %v", r)
		}
	}
}

// TestTheSmallest: one call at a time, of one sending, for one tick.
func TestTheSmallest(t *testing.T) {
	c := clientOf(t, smallConfig())
	for n := 1; n < 20; n++ {
		wantCall(t, c, 1, "", n)
		wantRefused(t, c, 1, "", api.ErrClientWindow)
		wantDue(t, c, n)
		wantWaiting(t, c, n, n)
		c.Tick()
		wantDue(t, c)
		wantDone(t, c, timeout(n, n))
	}
}

// TestTheSlowest: the greatest pace there is, to its end.
func TestTheSlowest(t *testing.T) {
	config := greatConfig()
	config.First = 9
	c := clientOf(t, config)
	wantCall(t, c, there, "", 9)
	given := 0
	for range 32 * mostWait {
		if len(c.Due()) == 1 {
			given++
		}
		if given != 1+c.Now()/mostWait {
			t.Fatalf("at %d: %d requests", c.Now(), given)
		}
		c.Tick()
	}
	wantDone(t, c, timeout(9, 32*mostWait))
	wantDue(t, c)
	if given != 32 {
		t.Errorf("%d requests", given)
	}
}

// TestAskedOnce: Due may come at any time, and gives one request for all sendings that are due.
func TestAskedOnce(t *testing.T) {
	times := []int{0, 2, 6, 14}
	for early := range 22 {
		for late := early + 1; late < 22; late++ {
			c := example(t)
			wantCall(t, c, there, "", 9)
			until(t, c, early)
			wantDue(t, c, 9)
			until(t, c, late)
			var want []int
			for _, time := range times {
				if time > early && time <= late {
					want = []int{9}
				}
			}
			wantDue(t, c, want...)
		}
	}
}

// TestArguments is C2: ErrArg and ErrClientLong, at each edge, and what is asked first.
func TestArguments(t *testing.T) {
	for _, x := range []struct {
		to, prog, vers, proc int
		size                 int
		want                 api.Errno
	}{
		{1, 0, 0, 0, 0, api.OK},
		{1<<24 - 1, 1<<32 - 1, 1<<32 - 1, 1<<32 - 1, 1000, api.OK},
		{0, 7, 1, 2, 0, api.ErrArg},
		{-1, 7, 1, 2, 0, api.ErrArg},
		{1 << 24, 7, 1, 2, 0, api.ErrArg},
		{1<<32 + 1, 7, 1, 2, 0, api.ErrArg},
		{math.MinInt, 7, 1, 2, 0, api.ErrArg},
		{5, -1, 1, 2, 0, api.ErrArg},
		{5, 1 << 32, 1, 2, 0, api.ErrArg},
		{5, 7, -1, 2, 0, api.ErrArg},
		{5, 7, 1 << 32, 2, 0, api.ErrArg},
		{5, 7, 1, -1, 0, api.ErrArg},
		{5, 7, 1, 1 << 32, 0, api.ErrArg},
		{5, 7, 1, math.MaxInt, 0, api.ErrArg},
		{0, 7, 1, 2, 5, api.ErrArg},
		{5, 7, 1, -1, 1004, api.ErrArg},
		{5, 7, 1, 2, 1, api.ErrClientLong},
		{5, 7, 1, 2, 2, api.ErrClientLong},
		{5, 7, 1, 2, 3, api.ErrClientLong},
		{5, 7, 1, 2, 999, api.ErrClientLong},
		{5, 7, 1, 2, 1001, api.ErrClientLong},
		{5, 7, 1, 2, 1004, api.ErrClientLong},
		{5, 7, 1, 2, 1 << 20, api.ErrClientLong},
	} {
		c := example(t)
		n, e := c.Call(x.to, x.prog, x.vers, x.proc, strings.Repeat("a", x.size))
		if e != x.want || (n == 9) != (e == api.OK) || (n == 0) != (e != api.OK) {
			t.Errorf("%v: %d, %d", x, n, e)
		}
		if e != api.OK {
			wantWaiting(t, c, 9)
			wantDue(t, c)
			wantCall(t, c, there, "", 9)
		}
	}
}

// TestWhichIsFirst is C2's order, where each applies.
func TestWhichIsFirst(t *testing.T) {
	config := exampleConfig()
	config.First, config.Window = 1<<32-1, 1
	c := clientOf(t, config)
	wantCall(t, c, there, "", 1<<32-1)
	wantRefused(t, c, 0, "abcde", api.ErrArg)
	wantRefused(t, c, there, "abcde", api.ErrClientLong)
	wantRefused(t, c, there, "", api.ErrClientWindow) // 2^32 less 2^32 - 1 is 1, and no number is left
	wantHeard(t, c, success(t, 1<<32-1), 1<<32-1)
	wantRefused(t, c, 0, "abcde", api.ErrArg)
	wantRefused(t, c, there, "abcde", api.ErrClientLong)
	wantRefused(t, c, there, "", api.ErrClientWorn)
}

// TestWorn is C2: at the end of its numbers a client has its outcomes still, and its water is 2^32.
func TestWorn(t *testing.T) {
	config := exampleConfig()
	config.First, config.Window = 1<<32-3, 64
	c := clientOf(t, config)
	for n := 1<<32 - 3; n < 1<<32; n++ {
		wantCall(t, c, there, "", n)
	}
	for range 3 {
		wantRefused(t, c, there, "", api.ErrClientWorn)
	}
	wantWaters(t, c, [2]int{1<<32 - 3, 1<<32 - 3}, [2]int{1<<32 - 2, 1<<32 - 3}, [2]int{1<<32 - 1, 1<<32 - 3})
	wantHeard(t, c, success(t, 1<<32-3), 1<<32-3)
	wantHeard(t, c, success(t, 1<<32-2), 1<<32-2)
	until(t, c, 2)
	wantWaters(t, c, [2]int{1<<32 - 1, 1<<32 - 1})
	until(t, c, 22)
	wantWaiting(t, c, 1<<32)
	wantRefused(t, c, there, "", api.ErrClientWorn)
	wantDue(t, c)
}

// TestWindows is C2: of each width there is, the window is full just when the next sequence lies that far above the water.
func TestWindows(t *testing.T) {
	for window := 1; window <= 64; window++ {
		config := exampleConfig()
		config.Window = window
		c := clientOf(t, config)
		for n := range window {
			wantCall(t, c, there, "", 9+n)
		}
		wantRefused(t, c, there, "", api.ErrClientWindow)
		for n := window - 1; n > 0; n-- {
			wantHeard(t, c, success(t, 9+n), 9+n)
			wantRefused(t, c, there, "", api.ErrClientWindow)
		}
		wantHeard(t, c, success(t, 9), 9)
		wantWaiting(t, c, 9+window)
		for n := range window {
			wantCall(t, c, there, "", 9+window+n)
		}
		wantRefused(t, c, there, "", api.ErrClientWindow)
		wantHeard(t, c, success(t, 9+window), 9+window)
		wantCall(t, c, there, "", 9+2*window)
		wantRefused(t, c, there, "", api.ErrClientWindow)
	}
}

// TestRefusedIsNotCounted: a call that is refused takes no number.
func TestRefusedIsNotCounted(t *testing.T) {
	c := example(t)
	wantCall(t, c, there, "", 9)
	wantRefused(t, c, there, "a", api.ErrClientLong)
	wantRefused(t, c, 0, "", api.ErrArg)
	wantCall(t, c, there, "", 10)
	wantRefused(t, c, there, "", api.ErrClientWindow)
	wantHeard(t, c, success(t, 9), 9)
	wantCall(t, c, there, "", 11)
	wantDue(t, c, 10, 11)
}

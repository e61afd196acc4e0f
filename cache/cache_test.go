package cache_test

import (
	"strings"
	"testing"

	"callbox/api"
	"callbox/cache"
)

var (
	ann = api.Who{Address: 65537, Instance: 7}
	bob = api.Who{Address: 65538, Instance: 7}
	cat = api.Who{Address: 65537, Instance: 8}
)

func wantErrno(t *testing.T, what string, got, want api.Errno) {
	t.Helper()
	if got != want {
		t.Errorf("%s: %d, not %d", what, got, want)
	}
}

// cacheFor has so many clients, entries of each, bytes, and that reserve.
func cacheFor(t *testing.T, clients, entries, bytes, reserve int) *cache.Cache {
	t.Helper()
	c, e := cache.New(api.CacheConfig{Clients: clients, Entries: entries, Bytes: bytes, Reserve: reserve})
	if c == nil || e != api.OK {
		t.Fatalf("New: %v, %d", c, e)
	}
	return c
}

// wantAsk: that is what the call is; but for CacheDone there is no answer.
func wantAsk(t *testing.T, c *cache.Cache, who api.Who, sequence, water, want int) {
	t.Helper()
	if got, reply := c.Ask(who, sequence, water); got != want || reply != "" {
		t.Errorf("Ask(%v, %d, %d): %d, %q, not %d", who, sequence, water, got, reply, want)
	}
}

func wantAnswer(t *testing.T, c *cache.Cache, who api.Who, sequence, water int, want string) {
	t.Helper()
	if got, reply := c.Ask(who, sequence, water); got != api.CacheDone || reply != want {
		t.Errorf("Ask(%v, %d, %d): %d, %q, not %q", who, sequence, water, got, reply, want)
	}
}

func wantDone(t *testing.T, c *cache.Cache, who api.Who, sequence int, reply string, want api.Errno) {
	t.Helper()
	if e := c.Done(who, sequence, reply); e != want {
		t.Errorf("Done(%v, %d, %d bytes): %d, not %d", who, sequence, len(reply), e, want)
	}
}

func wantBusy(t *testing.T, c *cache.Cache, who api.Who, sequence int, want bool) {
	t.Helper()
	if c.Busy(who, sequence) != want {
		t.Errorf("Busy(%v, %d): not %v", who, sequence, want)
	}
}

func wantWater(t *testing.T, c *cache.Cache, who api.Who, want int) {
	t.Helper()
	if got := c.Water(who); got != want {
		t.Errorf("Water(%v): %d, not %d", who, got, want)
	}
}

func wantHeld(t *testing.T, c *cache.Cache, clients, entries, bytes int) {
	t.Helper()
	if x, y, z := c.Clients(), c.Entries(), c.Bytes(); x != clients || y != entries || z != bytes {
		t.Errorf("%d clients, %d entries, %d bytes, not %d, %d, %d", x, y, z, clients, entries, bytes)
	}
}

// TestExamples are the chapter's, one behind the other.
func TestExamples(t *testing.T) {
	c := cacheFor(t, 1, 2, 300, 100)
	wantHeld(t, c, 0, 0, 0)
	wantAsk(t, c, ann, 1, 1, api.CacheNew)
	wantAsk(t, c, ann, 1, 1, api.CacheBusy)
	wantHeld(t, c, 1, 1, 100)
	wantDone(t, c, ann, 1, "yes!", api.OK)
	wantHeld(t, c, 1, 1, 4)
	wantAnswer(t, c, ann, 1, 1, "yes!")
	wantDone(t, c, ann, 1, "yes!", api.ErrCacheNone)

	wantAsk(t, c, ann, 2, 1, api.CacheNew)
	wantAsk(t, c, ann, 3, 1, api.CacheFull)
	wantAsk(t, c, ann, 3, 2, api.CacheNew)
	wantAsk(t, c, ann, 1, 1, api.CacheOld)
	wantHeld(t, c, 1, 2, 200)
	wantWater(t, c, ann, 2)

	wantAsk(t, c, ann, 9, 9, api.CacheNew)
	wantBusy(t, c, ann, 2, false)
	wantDone(t, c, ann, 2, "late", api.ErrCacheNone)
	wantHeld(t, c, 1, 1, 100)

	wantAsk(t, c, bob, 1, 1, api.CacheFull)
	wantAsk(t, c, ann, 9, 10, api.CacheOld)
	wantWater(t, c, ann, 10)
	wantHeld(t, c, 1, 0, 0)

	wantAsk(t, c, api.Who{Address: 0, Instance: 1}, 1, 1, api.CacheOld)
	wantAsk(t, c, ann, 10, 1, api.CacheNew)
	wantDone(t, c, ann, 10, strings.Repeat("x", 101), api.ErrCacheLong)
	wantBusy(t, c, ann, 10, true)
}

// TestNobodyIsKnown: of one that never came there is nothing.
func TestNobodyIsKnown(t *testing.T) {
	c := cacheFor(t, 2, 2, 200, 100)
	for range 2 {
		wantBusy(t, c, ann, 1, false)
		wantWater(t, c, ann, 0)
		wantDone(t, c, ann, 1, "x", api.ErrCacheNone)
		wantHeld(t, c, 0, 0, 0)
	}
	wantAsk(t, c, ann, 1, 1, api.CacheNew)
	for _, who := range []api.Who{bob, cat, {}, {Address: 65537}, {Instance: 7}, {Address: 7, Instance: 65537}} {
		wantBusy(t, c, who, 1, false)
		wantWater(t, c, who, 0)
		wantDone(t, c, who, 1, "x", api.ErrCacheNone)
	}
	wantBusy(t, c, ann, 1, true)
	wantHeld(t, c, 1, 1, 100)
}

// TestClientsAreByBoth: a client is its address and its instance; each has entries and a water of its own.
func TestClientsAreByBoth(t *testing.T) {
	c := cacheFor(t, 3, 4, 1000, 100)
	for i, who := range []api.Who{ann, bob, cat} {
		wantAsk(t, c, who, 5, 3+i, api.CacheNew)
		wantDone(t, c, who, 5, strings.Repeat("z", i), api.OK)
		wantAsk(t, c, who, 6, 3, api.CacheNew)
	}
	wantHeld(t, c, 3, 6, 303)
	wantAsk(t, c, bob, 9, 6, api.CacheNew)
	for i, who := range []api.Who{ann, bob, cat} {
		wantWater(t, c, who, []int{3, 6, 5}[i])
		wantBusy(t, c, who, 6, true)
		wantBusy(t, c, who, 9, who == bob)
	}
	wantAnswer(t, c, ann, 5, 1, "")
	wantAnswer(t, c, cat, 5, 1, "zz")
	wantAsk(t, c, bob, 5, 1, api.CacheOld)
	wantHeld(t, c, 3, 6, 402)
}

// TestWaterRises: it never falls, and what is below it goes, whatever it is; what is not stays, whatever it is.
func TestWaterRises(t *testing.T) {
	c := cacheFor(t, 1, 8, 2000, 100)
	for n := range 8 {
		wantAsk(t, c, ann, 10+n, 2, api.CacheNew)
		if n%2 == 0 {
			wantDone(t, c, ann, 10+n, strings.Repeat("x", n), api.OK)
		}
	}
	wantHeld(t, c, 1, 8, 412)
	wantWater(t, c, ann, 2)
	wantAsk(t, c, ann, 11, 10, api.CacheBusy)
	wantWater(t, c, ann, 10)
	wantHeld(t, c, 1, 8, 412)
	wantAnswer(t, c, ann, 12, 12, "xx")
	wantHeld(t, c, 1, 6, 312)
	wantAnswer(t, c, ann, 16, 14, "xxxxxx")
	wantHeld(t, c, 1, 4, 210)
	wantAnswer(t, c, ann, 14, 3, "xxxx")
	wantWater(t, c, ann, 14)
	wantAsk(t, c, ann, 13, 1, api.CacheOld)
	wantAsk(t, c, ann, 15, 15, api.CacheBusy)
	wantHeld(t, c, 1, 3, 206)
	wantAsk(t, c, ann, 17, 1000, api.CacheOld)
	wantHeld(t, c, 1, 0, 0)
	wantWater(t, c, ann, 1000)
	wantAsk(t, c, ann, 1000, 1, api.CacheNew)
	wantHeld(t, c, 1, 1, 100)
}

// TestWaterRisesThoughItIsFull: what is told of the call does not undo what the water did.
func TestWaterRisesThoughItIsFull(t *testing.T) {
	c := cacheFor(t, 2, 9, 300, 100)
	wantAsk(t, c, bob, 1, 1, api.CacheNew)
	wantAsk(t, c, ann, 1, 1, api.CacheNew)
	wantAsk(t, c, ann, 5, 1, api.CacheNew)
	wantDone(t, c, ann, 1, "x", api.OK)
	wantAsk(t, c, ann, 6, 1, api.CacheFull)
	wantHeld(t, c, 2, 3, 201)
	wantAsk(t, c, ann, 6, 2, api.CacheNew)
	wantHeld(t, c, 2, 3, 300)
	wantAsk(t, c, ann, 7, 4, api.CacheFull)
	wantWater(t, c, ann, 4)
	wantHeld(t, c, 2, 3, 300)
	wantAsk(t, c, ann, 3, 1, api.CacheOld)
}

// TestGoneIsNotNew: what has gone is old for ever, also where it never came.
func TestGoneIsNotNew(t *testing.T) {
	c := cacheFor(t, 1, 4, 1000, 100)
	wantAsk(t, c, ann, 4, 4, api.CacheNew)
	wantDone(t, c, ann, 4, "four", api.OK)
	wantAsk(t, c, ann, 8, 8, api.CacheNew)
	for n := 1; n < 8; n++ {
		for _, water := range []int{1, 4, 7, 8} {
			wantAsk(t, c, ann, n, water, api.CacheOld)
		}
		wantBusy(t, c, ann, n, false)
		wantDone(t, c, ann, n, "", api.ErrCacheNone)
	}
	wantHeld(t, c, 1, 1, 100)
	wantWater(t, c, ann, 8)
}

// TestOtherIsNotKnown: of a new client whose call is old, or for which there is no room, nothing stays.
func TestOtherIsNotKnown(t *testing.T) {
	c := cacheFor(t, 2, 9, 200, 100)
	wantAsk(t, c, ann, 1, 2, api.CacheOld)
	wantAsk(t, c, ann, 1, api.MaxWord, api.CacheOld)
	wantHeld(t, c, 0, 0, 0)
	wantWater(t, c, ann, 0)
	wantAsk(t, c, ann, 1, 1, api.CacheNew)
	wantAsk(t, c, ann, 2, 1, api.CacheNew)
	wantAsk(t, c, bob, 3, 3, api.CacheFull)
	wantWater(t, c, bob, 0)
	wantHeld(t, c, 1, 2, 200)
	wantDone(t, c, ann, 2, "", api.OK)
	wantAsk(t, c, bob, 2, 2, api.CacheNew)
	wantWater(t, c, bob, 2)
	wantAsk(t, c, cat, 1, 2, api.CacheOld)
	wantAsk(t, c, cat, 2, 2, api.CacheFull)
	wantWater(t, c, cat, 0)
	wantHeld(t, c, 2, 3, 200)
}

// TestClientStaysKnown: also without entries, so that what it said of its water holds.
func TestClientStaysKnown(t *testing.T) {
	c := cacheFor(t, 1, 1, 100, 100)
	wantAsk(t, c, ann, 1, 1, api.CacheNew)
	wantAsk(t, c, ann, 1, 50, api.CacheOld)
	wantHeld(t, c, 1, 0, 0)
	wantAsk(t, c, bob, 1, 1, api.CacheFull)
	wantAsk(t, c, ann, 49, 1, api.CacheOld)
	wantAsk(t, c, ann, 50, 1, api.CacheNew)
}

// TestAnswers: each call's own, whatever bytes they are.
func TestAnswers(t *testing.T) {
	c := cacheFor(t, 1, 9, 2000, 64)
	replies := []string{"", "\x00", "yes!", "\xff\xfe", "no", "ü€", " \n", strings.Repeat("\x00", 64), strings.Repeat("x", 63)}
	for n, reply := range replies {
		wantAsk(t, c, ann, n+1, 1, api.CacheNew)
		wantDone(t, c, ann, n+1, reply, api.OK)
		wantDone(t, c, ann, n+1, "another", api.ErrCacheNone)
		wantBusy(t, c, ann, n+1, false)
	}
	for range 3 {
		for n, reply := range replies {
			wantAnswer(t, c, ann, n+1, 1, reply)
		}
	}
	wantHeld(t, c, 1, 9, 0+1+4+2+2+5+2+64+63)
}

// TestAnsweredOutOfOrder: what came later may be answered sooner.
func TestAnsweredOutOfOrder(t *testing.T) {
	c := cacheFor(t, 2, 9, 1000, 100)
	for _, n := range []int{7, 3, 5} {
		wantAsk(t, c, ann, n, 3, api.CacheNew)
	}
	wantDone(t, c, ann, 5, "five", api.OK)
	wantAsk(t, c, ann, 3, 3, api.CacheBusy)
	wantAsk(t, c, ann, 7, 3, api.CacheBusy)
	wantDone(t, c, ann, 3, "three", api.OK)
	wantAnswer(t, c, ann, 5, 3, "five")
	wantAsk(t, c, ann, 4, 3, api.CacheNew)
	wantAsk(t, c, ann, 7, 5, api.CacheBusy)
	wantHeld(t, c, 1, 2, 104)
	wantDone(t, c, ann, 4, "four", api.ErrCacheNone)
}

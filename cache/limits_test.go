package cache_test

import (
	"math"
	"strings"
	"testing"

	"callbox/api"
	"callbox/cache"
)

// edges are numbers at, and beside, least and most, and far off.
func edges(least, most int) []int {
	return []int{least - 1, least, least + 1, most - 1, most, most + 1, 0, 1, -1, -least, -most, most + 1<<32, most << 1, math.MaxInt, math.MinInt}
}

func between(n, least, most int) bool { return n >= least && n <= most }

// TestConfig is Q1, each number by itself.
func TestConfig(t *testing.T) {
	want := func(x api.CacheConfig, may bool) {
		t.Helper()
		c, e := cache.New(x)
		if may && (c == nil || e != api.OK) || !may && (c != nil || e != api.ErrCacheConfig) {
			t.Errorf("New(%v): %v, %d", x, c, e)
		}
	}
	for _, n := range edges(1, 64) {
		want(api.CacheConfig{Clients: n, Entries: 2, Bytes: 100, Reserve: 64}, between(n, 1, 64))
		want(api.CacheConfig{Clients: 2, Entries: n, Bytes: 100, Reserve: 64}, between(n, 1, 64))
	}
	for _, n := range edges(64, 1100) {
		want(api.CacheConfig{Clients: 2, Entries: 2, Bytes: 1100, Reserve: n}, between(n, 64, 1100))
		want(api.CacheConfig{Clients: 2, Entries: 2, Bytes: 1 << 20, Reserve: n}, between(n, 64, 1100))
		want(api.CacheConfig{Clients: 2, Entries: 2, Bytes: n, Reserve: n}, between(n, 64, 1100))
		want(api.CacheConfig{Clients: 2, Entries: 2, Bytes: n - 1, Reserve: n}, false)
	}
	for _, reserve := range []int{64, 500, 1100} {
		for _, n := range edges(reserve, 1<<20) {
			want(api.CacheConfig{Clients: 2, Entries: 2, Bytes: n, Reserve: reserve}, between(n, reserve, 1<<20))
		}
	}
	want(api.CacheConfig{}, false)
	want(api.CacheConfig{Clients: 64, Entries: 64, Bytes: 1 << 20, Reserve: 1100}, true)
	want(api.CacheConfig{Clients: 1, Entries: 1, Bytes: 64, Reserve: 64}, true)
}

// TestNumbersOfACall is Q2's first word: nothing changes, of one that is known and of another one, unless the four may be.
func TestNumbersOfACall(t *testing.T) {
	call := func(at, n int) (api.Who, int, int) {
		x := [4]int{ann.Address, ann.Instance, 5, 3}
		x[at] = n
		return api.Who{Address: x[0], Instance: x[1]}, x[2], x[3]
	}
	most := [4]int{1<<24 - 1, 1 << 62, 1<<32 - 1, 1<<32 - 1}
	for at := range most {
		for _, n := range edges(1, most[at]) {
			who, sequence, water := call(at, n)
			want := api.CacheNew
			if !between(n, 1, most[at]) || sequence < water {
				want = api.CacheOld
			}
			fresh := cacheFor(t, 2, 2, 1000, 100)
			wantAsk(t, fresh, who, sequence, water, want)
			if want == api.CacheOld {
				wantHeld(t, fresh, 0, 0, 0)
				wantWater(t, fresh, who, 0)
				wantBusy(t, fresh, who, sequence, false)
				wantDone(t, fresh, who, sequence, "", api.ErrCacheNone)
			} else {
				wantHeld(t, fresh, 1, 1, 100)
				wantWater(t, fresh, who, water)
				wantAsk(t, fresh, who, sequence, water, api.CacheBusy)
				wantDone(t, fresh, who, sequence, "", api.OK)
				wantAnswer(t, fresh, who, sequence, water, "")
			}
			if !between(n, 1, most[at]) {
				known := cacheFor(t, 2, 2, 1000, 100)
				wantAsk(t, known, ann, 2, 2, api.CacheNew)
				wantAsk(t, known, who, sequence, water, api.CacheOld)
				wantWater(t, known, ann, 2)
				wantHeld(t, known, 1, 1, 100)
				wantBusy(t, known, ann, 2, true)
			}
		}
	}
}

// TestWaterOfAWrongCall: a water that would do is not heard, if the sequence is no sequence.
func TestWaterOfAWrongCall(t *testing.T) {
	c := cacheFor(t, 1, 2, 1000, 100)
	wantAsk(t, c, ann, 1, 1, api.CacheNew)
	for _, sequence := range []int{0, -1, 1 << 32, math.MaxInt, math.MinInt} {
		wantAsk(t, c, ann, sequence, 7, api.CacheOld)
	}
	for _, water := range []int{1 << 32, 1<<32 + 1, math.MaxInt} {
		wantAsk(t, c, ann, 9, water, api.CacheOld)
	}
	wantWater(t, c, ann, 1)
	wantAsk(t, c, ann, 1, 1, api.CacheBusy)
}

// TestLastSequence: the counter's end, where the water can rise no more.
func TestLastSequence(t *testing.T) {
	const last = 1<<32 - 1
	c := cacheFor(t, 1, 2, 1000, 100)
	who := api.Who{Address: 1<<24 - 1, Instance: 1 << 62}
	wantAsk(t, c, who, last-1, last-1, api.CacheNew)
	wantAsk(t, c, who, last, last-1, api.CacheNew)
	wantAsk(t, c, who, last, last, api.CacheBusy)
	wantHeld(t, c, 1, 1, 100)
	wantDone(t, c, who, last, "end", api.OK)
	wantAsk(t, c, who, last, last+1, api.CacheOld)
	wantAnswer(t, c, who, last, last, "end")
	wantAsk(t, c, who, last-1, 1, api.CacheOld)
	wantWater(t, c, who, last)
}

// TestEntriesOfEach: as many as may be, and one more, of each client.
func TestEntriesOfEach(t *testing.T) {
	for _, most := range []int{1, 2, 63, 64} {
		c := cacheFor(t, 2, most, 1<<20, 64)
		for _, who := range []api.Who{ann, bob} {
			for n := range most {
				wantAsk(t, c, who, n+1, 1, api.CacheNew)
				if n%3 == 0 {
					wantDone(t, c, who, n+1, "", api.OK)
				}
			}
			wantAsk(t, c, who, most+1, 1, api.CacheFull)
			wantBusy(t, c, who, most+1, false)
			wantDone(t, c, who, most+1, "", api.ErrCacheNone)
			wantAnswer(t, c, who, 1, 1, "")
			wantAsk(t, c, who, most+1, 2, api.CacheNew)
		}
		if c.Entries() != 2*most {
			t.Errorf("%d entries", c.Entries())
		}
	}
}

// TestClientsAtMost: as many as may be, and one more; those that are known go on.
func TestClientsAtMost(t *testing.T) {
	for _, most := range []int{1, 2, 63, 64} {
		c := cacheFor(t, most, 2, 1<<20, 64)
		for n := range most {
			wantAsk(t, c, api.Who{Address: 1, Instance: n + 1}, 1, 1, api.CacheNew)
		}
		wantAsk(t, c, api.Who{Address: 1, Instance: most + 1}, 1, 1, api.CacheFull)
		wantAsk(t, c, api.Who{Address: 2, Instance: 1}, 1, 1, api.CacheFull)
		wantAsk(t, c, api.Who{Address: 2, Instance: 1}, 1, 2, api.CacheOld)
		wantHeld(t, c, most, most, 64*most)
		for n := range most {
			wantAsk(t, c, api.Who{Address: 1, Instance: n + 1}, 2, 1, api.CacheNew)
		}
		wantHeld(t, c, most, 2*most, 2*64*most)
	}
}

// TestBytesAtMost: one is under way just if its whole reserve is there still.
func TestBytesAtMost(t *testing.T) {
	for _, reply := range []int{0, 1, 63, 64, 99, 100} {
		for _, left := range []int{0, 1, 99, 100, 101} {
			c := cacheFor(t, 2, 9, 100+reply+left, 100)
			wantAsk(t, c, ann, 1, 1, api.CacheNew)
			wantDone(t, c, ann, 1, strings.Repeat("x", reply), api.OK)
			wantAsk(t, c, ann, 2, 1, api.CacheNew)
			wantHeld(t, c, 1, 2, 100+reply)
			want, clients, entries := api.CacheFull, 1, 2
			if left >= 100 {
				want, clients, entries = api.CacheNew, 2, 3
			}
			wantAsk(t, c, bob, 1, 1, want)
			wantHeld(t, c, clients, entries, 100*(entries-1)+reply)
			if want == api.CacheNew {
				want = api.CacheFull
			}
			wantAsk(t, c, ann, 3, 1, want)
			wantAnswer(t, c, ann, 1, 1, strings.Repeat("x", reply))
			wantAsk(t, c, ann, 2, 1, api.CacheBusy)
		}
	}
}

// TestFullToTheBrim: 2^20 bytes, and 64 times 64 entries.
func TestFullToTheBrim(t *testing.T) {
	c := cacheFor(t, 64, 64, 1<<20, 256)
	for n := range 64 * 64 {
		who := api.Who{Address: 7, Instance: 1 + n/64}
		wantAsk(t, c, who, 1+n%64, 1, api.CacheNew)
		wantDone(t, c, who, 1+n%64, strings.Repeat("x", 256), api.OK)
	}
	wantHeld(t, c, 64, 64*64, 1<<20)
	wantAsk(t, c, api.Who{Address: 7, Instance: 1}, 65, 1, api.CacheFull)
	wantAsk(t, c, api.Who{Address: 7, Instance: 64}, 65, 65, api.CacheNew)
	wantHeld(t, c, 64, 63*64+1, 1<<20-63*256)
	c = cacheFor(t, 64, 64, 1<<20, 1100)
	news := 0
	for n := range 64 * 64 {
		if v, _ := c.Ask(api.Who{Address: 7, Instance: 1 + n%64}, 1+n/64, 1); v == api.CacheNew {
			news++
		}
	}
	if news != 953 {
		t.Errorf("%d are under way", news)
	}
	wantHeld(t, c, 64, 953, 953*1100)
}

// TestAnswerAtMost: an answer has as many bytes as are reserved, at the most.
func TestAnswerAtMost(t *testing.T) {
	for _, reserve := range []int{64, 65, 100, 1099, 1100} {
		c := cacheFor(t, 1, 2, 2*reserve, reserve)
		wantAsk(t, c, ann, 1, 1, api.CacheNew)
		for _, n := range []int{reserve + 1, reserve + 4, 2 * reserve, 1 << 20} {
			wantDone(t, c, ann, 1, strings.Repeat("x", n), api.ErrCacheLong)
			wantDone(t, c, ann, 2, strings.Repeat("x", n), api.ErrCacheNone)
			wantDone(t, c, bob, 1, strings.Repeat("x", n), api.ErrCacheNone)
			wantAsk(t, c, ann, 1, 1, api.CacheBusy)
			wantHeld(t, c, 1, 1, reserve)
		}
		wantDone(t, c, ann, 1, strings.Repeat("x", reserve), api.OK)
		wantAnswer(t, c, ann, 1, 1, strings.Repeat("x", reserve))
		wantHeld(t, c, 1, 1, reserve)
		wantDone(t, c, ann, 1, strings.Repeat("x", reserve+1), api.ErrCacheNone)
	}
}

// TestWhichIsFirst: where the entry is there, it matters not that there is no room; where the call is old, neither.
func TestWhichIsFirst(t *testing.T) {
	c := cacheFor(t, 1, 2, 200, 100)
	wantAsk(t, c, ann, 3, 3, api.CacheNew)
	wantAsk(t, c, ann, 4, 3, api.CacheNew)
	wantDone(t, c, ann, 4, strings.Repeat("x", 100), api.OK)
	wantAsk(t, c, ann, 5, 3, api.CacheFull)
	wantAsk(t, c, ann, 3, 3, api.CacheBusy)
	wantAnswer(t, c, ann, 4, 3, strings.Repeat("x", 100))
	wantAsk(t, c, ann, 2, 1, api.CacheOld)
	wantAsk(t, c, bob, 2, 3, api.CacheOld)
	wantAsk(t, c, bob, 3, 3, api.CacheFull)
	wantHeld(t, c, 1, 2, 200)
}

// TestAnyNumbers: no numbers make a call panic, and wrong ones change nothing.
func TestAnyNumbers(t *testing.T) {
	c := cacheFor(t, 2, 2, 1000, 100)
	wantAsk(t, c, ann, 1, 1, api.CacheNew)
	odd := []int{math.MinInt, -1 << 32, -1, 0, 1 << 32, 1<<62 + 1, math.MaxInt}
	for _, x := range odd {
		for _, y := range odd {
			who := api.Who{Address: x, Instance: y}
			for _, z := range odd {
				wantAsk(t, c, who, z, x, api.CacheOld)
				wantAsk(t, c, ann, x, z, api.CacheOld)
				wantBusy(t, c, who, z, false)
				wantDone(t, c, who, z, "", api.ErrCacheNone)
			}
			wantBusy(t, c, ann, x, false)
			wantDone(t, c, ann, x, "", api.ErrCacheNone)
			wantWater(t, c, who, 0)
		}
	}
	wantHeld(t, c, 1, 1, 100)
	wantWater(t, c, ann, 1)
}

// TestZeroCache: one that no New made has room for nobody.
func TestZeroCache(t *testing.T) {
	var c cache.Cache
	wantAsk(t, &c, ann, 1, 1, api.CacheFull)
	wantAsk(t, &c, ann, 1, 2, api.CacheOld)
	wantBusy(t, &c, ann, 1, false)
	wantDone(t, &c, ann, 1, "", api.ErrCacheNone)
	wantWater(t, &c, ann, 0)
	wantHeld(t, &c, 0, 0, 0)
}

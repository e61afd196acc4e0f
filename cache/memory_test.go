package cache_test

import (
	"runtime"
	"strconv"
	"strings"
	"sync"
	"testing"
	"time"
	"unsafe"
	"weak"

	"callbox/api"
	"callbox/cache"
)

// TestAnswerIsOwn: of a text that was handed in, nothing is kept but the bytes of the answer.
func TestAnswerIsOwn(t *testing.T) {
	long := strings.Repeat("abcd", 1000)
	from := uintptr(unsafe.Pointer(unsafe.StringData(long)))
	c := cacheFor(t, 1, 1, 100, 100)
	wantAsk(t, c, ann, 1, 1, api.CacheNew)
	wantDone(t, c, ann, 1, long[4:8], api.OK)
	_, reply := c.Ask(ann, 1, 1)
	at := uintptr(unsafe.Pointer(unsafe.StringData(reply)))
	if reply != "abcd" || at >= from && at < from+uintptr(len(long)) {
		t.Errorf("%q: the memory of what was handed in", reply)
	}
	runtime.KeepAlive(long)
}

// bytesTaken is how many bytes are taken while f runs.
func bytesTaken(f func()) uint64 {
	var before, behind runtime.MemStats
	runtime.ReadMemStats(&before)
	f()
	runtime.ReadMemStats(&behind)
	return behind.TotalAlloc - before.TotalAlloc
}

// TestLongIsNotCopied: what is too long is refused by its length alone.
func TestLongIsNotCopied(t *testing.T) {
	long := strings.Repeat("x", 1<<22)
	c := cacheFor(t, 1, 1, 100, 100)
	wantAsk(t, c, ann, 1, 1, api.CacheNew)
	if n := bytesTaken(func() {
		for range 10 {
			wantDone(t, c, ann, 1, long, api.ErrCacheLong)
			wantDone(t, c, ann, 2, long, api.ErrCacheNone)
		}
	}); n > 1<<20 {
		t.Errorf("%d bytes", n)
	}
}

// TestRoomIsNotTaken: a cache takes memory for what is there, not for what may be.
func TestRoomIsNotTaken(t *testing.T) {
	if n := bytesTaken(func() {
		for range 100 {
			c := cacheFor(t, 64, 64, 1<<20, 1100)
			c.Ask(ann, 1, 1)
		}
	}); n > 1<<18 {
		t.Errorf("%d bytes", n)
	}
}

// TestRefusedTakesNothing: calls that are refused, however many, leave nothing behind.
func TestRefusedTakesNothing(t *testing.T) {
	c := cacheFor(t, 1, 1, 100, 100)
	wantAsk(t, c, ann, 5, 5, api.CacheNew)
	if n := bytesTaken(func() {
		for n := range 100000 {
			c.Ask(api.Who{Address: 1 + n, Instance: 1}, 1, 1)
			c.Ask(api.Who{Address: 1 + n, Instance: 1}, 1, 2)
			c.Ask(ann, 6+n, 5)
			c.Ask(ann, 1+n%4, 1)
		}
	}); n > 1<<18 {
		t.Errorf("%d bytes", n)
	}
	wantHeld(t, c, 1, 1, 100)
}

// TestNothingIsKept: an answer that went does not lie in the cache.
func TestNothingIsKept(t *testing.T) {
	c := cacheFor(t, 1, 4, 1<<20, 1100)
	answer := func(sequence int) weak.Pointer[byte] {
		wantAsk(t, c, ann, sequence, 1, api.CacheNew)
		wantDone(t, c, ann, sequence, strings.Repeat(strconv.Itoa(sequence), 1000), api.OK)
		_, reply := c.Ask(ann, sequence, 1)
		return weak.Make(unsafe.StringData(reply))
	}
	goes, stays := answer(1), answer(2)
	c.Ask(ann, 2, 2)
	for n := 0; goes.Value() != nil && n < 100; n++ {
		runtime.GC()
		time.Sleep(time.Millisecond)
	}
	if goes.Value() != nil {
		t.Error("what went is kept")
	}
	if stays.Value() == nil {
		t.Error("what is there is not kept")
	}
	wantAnswer(t, c, ann, 2, 1, strings.Repeat("2", 1000))
}

// TestLongLife: a client that goes on and on takes no more than at its beginning.
func TestLongLife(t *testing.T) {
	c := cacheFor(t, 1, 64, 1<<20, 1100)
	live := func() uint64 {
		var m runtime.MemStats
		runtime.GC()
		runtime.GC()
		runtime.ReadMemStats(&m)
		return m.HeapAlloc
	}
	at := 1
	goOn := func(until int) {
		for ; at < until; at++ {
			c.Ask(ann, at, max(1, at-63))
			c.Done(ann, at, "some answer or other")
		}
	}
	goOn(1000)
	before := live()
	goOn(500000)
	if behind := live(); behind > before+1<<16 {
		t.Errorf("%d bytes, and %d before", behind, before)
	}
	wantHeld(t, c, 1, 64, 64*20)
}

// TestApart: caches know nothing of one another.
func TestApart(t *testing.T) {
	x, y := cacheFor(t, 1, 2, 300, 100), cacheFor(t, 2, 1, 300, 64)
	wantAsk(t, x, ann, 1, 1, api.CacheNew)
	wantWater(t, y, ann, 0)
	wantAsk(t, y, ann, 1, 1, api.CacheNew)
	wantDone(t, x, ann, 1, "of x", api.OK)
	wantAsk(t, y, ann, 1, 1, api.CacheBusy)
	wantAsk(t, x, bob, 1, 1, api.CacheFull)
	wantAsk(t, y, bob, 1, 1, api.CacheNew)
	wantAsk(t, x, ann, 2, 1, api.CacheNew)
	wantAsk(t, y, ann, 2, 1, api.CacheFull)
	wantAsk(t, x, ann, 9, 9, api.CacheNew)
	wantWater(t, x, ann, 9)
	wantWater(t, y, ann, 1)
	wantBusy(t, y, ann, 1, true)
	wantHeld(t, x, 1, 1, 100)
	wantHeld(t, y, 2, 2, 128)
}

// TestCopied: a copy of what a pointer leads to is the same cache, not half of one.
func TestCopied(t *testing.T) {
	x := cacheFor(t, 2, 2, 300, 100)
	wantAsk(t, x, ann, 1, 1, api.CacheNew)
	y := *x
	wantAsk(t, x, bob, 1, 1, api.CacheNew)
	wantDone(t, &y, ann, 1, "yes!", api.OK)
	wantAsk(t, &y, cat, 1, 1, api.CacheFull)
	wantAsk(t, &y, bob, 2, 1, api.CacheNew)
	wantAsk(t, x, ann, 2, 2, api.CacheNew)
	for _, c := range []*cache.Cache{x, &y} {
		wantHeld(t, c, 2, 3, 300)
		wantWater(t, c, ann, 2)
		wantBusy(t, c, bob, 2, true)
		wantAsk(t, c, bob, 3, 1, api.CacheFull)
	}
}

// TestAtOnce: caches of their own may be used at the same time.
func TestAtOnce(t *testing.T) {
	var all sync.WaitGroup
	for i := range 8 {
		all.Go(func() {
			c, e := cache.New(api.CacheConfig{Clients: 2, Entries: 4, Bytes: 5000, Reserve: 100})
			wantErrno(t, "New", e, api.OK)
			for n := 1; n <= 500; n++ {
				reply := strconv.Itoa(1000*i + n)
				wantAsk(t, c, ann, n, max(1, n-3), api.CacheNew)
				wantDone(t, c, ann, n, reply, api.OK)
				wantAnswer(t, c, ann, n, 1, reply)
			}
			if c.Entries() != 4 {
				t.Errorf("%d entries", c.Entries())
			}
		})
	}
	all.Wait()
}

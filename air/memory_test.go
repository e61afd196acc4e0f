package air_test

import (
	"runtime"
	"slices"
	"strings"
	"sync"
	"testing"
	"unsafe"

	"callbox/air"
	"callbox/api"
)

// scribble writes over a list, and over its spare room.
func scribble(list []api.Packet) {
	whole := list[:cap(list)]
	for i := range whole {
		whole[i] = api.Packet{From: -1, To: -1, Data: "scribble"}
	}
}

// TestFlyingIsNewMemory: what is done with a list that came out is nothing to the Air, nor to another list; and what is done with the Air is nothing to the list.
func TestFlyingIsNewMemory(t *testing.T) {
	change := map[string]func(x *air.Air) string{
		"nothing":          func(x *air.Air) string { return "abcd" },
		"sent":             func(x *air.Air) string { x.Send(packet("e")); return "abcde" },
		"doubled":          func(x *air.Air) string { x.Double(0); return "abcda" },
		"first dropped":    func(x *air.Air) string { x.Drop(0); return "bcd" },
		"last dropped":     func(x *air.Air) string { x.Drop(3); return "abc" },
		"one delivered":    func(x *air.Air) string { x.Deliver(1); return "acd" },
		"all gone":         func(x *air.Air) string { x.Drop(3); x.Drop(2); x.Drop(1); x.Drop(0); return "" },
		"last gone, again": func(x *air.Air) string { x.Drop(3); x.Send(packet("e")); return "abce" },
	}
	for what, f := range change {
		x := airOf(t, "abcd")
		early, other := x.Flying(), x.Flying()
		letters := f(x)
		late := x.Flying()
		if !slices.Equal(early, packets("abcd")) || !slices.Equal(other, early) {
			t.Errorf("%s: a list that came out was changed", what)
		}
		scribble(early)
		if !slices.Equal(other, packets("abcd")) || !slices.Equal(late, packets(letters)) {
			t.Errorf("%s: lists share memory", what)
		}
		scribble(late)
		wantFlying(t, what, x, letters)
		wantErrno(t, what, x.Send(packet("z")), api.OK)
		wantFlying(t, what+", one sent", x, letters+"z")
		if late = late[:cap(late)]; len(late) > 0 && late[len(late)-1].Data != "scribble" {
			t.Errorf("%s: a list that came out was written into", what)
		}
	}
}

// TestApart: Airs know nothing of one another.
func TestApart(t *testing.T) {
	x, y := airOf(t, "abc"), airOf(t, "xyz")
	x.Tick()
	x.Drop(0)
	wantDelivered(t, y, 2, "z")
	x.Double(0)
	y.Send(packet("v"))
	wantFlying(t, "the one", x, "bcb")
	wantFlying(t, "the other", y, "xyv")
	if a, b := x.Now(), y.Now(); a != 1 || b != 0 {
		t.Errorf("the time: %d, %d", a, b)
	}
	for range mostFlying {
		x.Double(0)
	}
	wantErrno(t, "the one is full", x.Send(packet("d")), api.ErrAirFull)
	wantErrno(t, "the other is not", y.Send(packet("d")), api.OK)
}

// TestCopied: a copy of an Air goes its own way from there on, whatever is done with either.
func TestCopied(t *testing.T) {
	for n := range 12 {
		letters := "abcdefghijkl"[:n+1]
		x := airOf(t, letters)
		y := *x
		x.Send(packet("x"))
		y.Send(packet("y"))
		wantFlying(t, "the one", x, letters+"x")
		wantFlying(t, "the copy", &y, letters+"y")
		z := y
		wantErrno(t, "Drop", y.Drop(0), api.OK)
		wantErrno(t, "Drop", z.Drop(n+1), api.OK)
		z.Double(0)
		y.Double(n)
		wantFlying(t, "the copy", &y, letters[1:]+"yy")
		wantFlying(t, "its copy", &z, letters+"a")
		wantFlying(t, "the one", x, letters+"x")
	}
}

// TestDataIsOwn: of a text that was handed in, nothing is kept but the bytes that were sent.
func TestDataIsOwn(t *testing.T) {
	long := strings.Repeat("abcd", 1000)
	from := uintptr(unsafe.Pointer(unsafe.StringData(long)))
	x := air.New()
	x.Send(api.Packet{Data: long[4:8]})
	x.Double(0)
	told, _ := x.Deliver(0)
	for _, p := range append(x.Flying(), told) {
		at := uintptr(unsafe.Pointer(unsafe.StringData(p.Data)))
		if p.Data != "abcd" || at >= from && at < from+uintptr(len(long)) {
			t.Errorf("%q: the memory of what was handed in", p.Data)
		}
	}
	runtime.KeepAlive(long)
}

// TestLongIsNotCopied: what is too long is refused by its length alone.
func TestLongIsNotCopied(t *testing.T) {
	long := strings.Repeat("x", 1<<22)
	x := air.New()
	var before, behind runtime.MemStats
	runtime.ReadMemStats(&before)
	for range 10 {
		wantErrno(t, "Send", x.Send(api.Packet{Data: long}), api.ErrAirLong)
	}
	runtime.ReadMemStats(&behind)
	if n := behind.TotalAlloc - before.TotalAlloc; n > 1<<20 {
		t.Errorf("%d bytes", n)
	}
}

// TestAtOnce: Airs of their own may be used at the same time.
func TestAtOnce(t *testing.T) {
	var all sync.WaitGroup
	for i := range 8 {
		all.Go(func() {
			x := air.New()
			for n := range 500 {
				wantErrno(t, "Send", x.Send(numbered(1000*i+n)), api.OK)
				if x.Tick() != n+1 {
					t.Error("the time is another one's")
				}
			}
			for n := range 500 {
				if p, e := x.Deliver(0); p != numbered(1000*i+n) || e != api.OK {
					t.Errorf("%v, %d", p, e)
				}
			}
		})
	}
	all.Wait()
}

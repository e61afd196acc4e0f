package air_test

import (
	"slices"
	"strings"
	"testing"

	"callbox/air"
	"callbox/api"
)

const (
	mostBytes  = 1500
	mostFlying = 1000
)

// numbered is the n-th of many.
func numbered(n int) api.Packet { return api.Packet{From: n, To: -n, Data: "x"} }

// fullAir has as many under way as may be, the n-th one numbered n.
func fullAir(t *testing.T) *air.Air {
	t.Helper()
	x := air.New()
	for n := range mostFlying {
		if e := x.Send(numbered(n)); e != api.OK {
			t.Fatalf("Send: %d at %d", e, n)
		}
	}
	return x
}

// wantNumbered: under way are those of the numbers.
func wantNumbered(t *testing.T, what string, x *air.Air, numbers []int) {
	t.Helper()
	got := x.Flying()
	if len(got) != len(numbers) {
		t.Fatalf("%s: %d are under way, not %d", what, len(got), len(numbers))
	}
	for i, n := range numbers {
		if got[i] != numbered(n) {
			t.Fatalf("%s: %d is %v", what, i, got[i])
		}
	}
}

func upTo(n int) []int {
	var out []int
	for i := range n {
		out = append(out, i)
	}
	return out
}

// TestLong is A2: 1500 bytes may be, and no more.
func TestLong(t *testing.T) {
	x := air.New()
	for _, n := range []int{0, 1, 1499, mostBytes} {
		p := api.Packet{From: n, To: 1, Data: strings.Repeat("\xff", n)}
		wantErrno(t, "Send", x.Send(p), api.OK)
		if q, e := x.Deliver(0); q != p || e != api.OK {
			t.Errorf("%d bytes: %d", n, e)
		}
	}
	for _, n := range []int{mostBytes + 1, mostBytes + 2, 3000, 1 << 16, 1 << 24} {
		wantErrno(t, "Send", x.Send(api.Packet{From: 1, To: 1, Data: strings.Repeat("x", n)}), api.ErrAirLong)
		wantFlying(t, "refused", x, "")
	}
	// Bytes are counted, not letters.
	wantErrno(t, "Send", x.Send(api.Packet{Data: strings.Repeat("\u00e4", 751)}), api.ErrAirLong)
	wantErrno(t, "Send", x.Send(api.Packet{Data: strings.Repeat("\u00e4", 750)}), api.OK)
}

// TestFull is A2 and A3: 1000 may be under way, and no more; what is refused changes nothing.
func TestFull(t *testing.T) {
	x := fullAir(t)
	wantErrno(t, "Send", x.Send(numbered(7)), api.ErrAirFull)
	wantErrno(t, "Send", x.Send(api.Packet{}), api.ErrAirFull)
	for _, n := range []int{0, 500, 999} {
		wantErrno(t, "Double", x.Double(n), api.ErrAirFull)
	}
	wantNumbered(t, "full", x, upTo(mostFlying))
}

// TestWhichErrorIsFirst: too long is told ahead of full, and a number that none has ahead of full.
func TestWhichErrorIsFirst(t *testing.T) {
	x := fullAir(t)
	long := api.Packet{Data: strings.Repeat("x", mostBytes+1)}
	wantErrno(t, "Send", x.Send(long), api.ErrAirLong)
	for _, n := range []int{-1, 1000, 1001} {
		wantErrno(t, "Double", x.Double(n), api.ErrAirPick)
	}
	wantErrno(t, "Drop", x.Drop(1000), api.ErrAirPick)
	if p, e := x.Deliver(1000); p != (api.Packet{}) || e != api.ErrAirPick {
		t.Errorf("Deliver: %v, %d", p, e)
	}
	wantNumbered(t, "full", x, upTo(mostFlying))
}

// TestRoomAgain: one that goes makes room for one, whichever it is.
func TestRoomAgain(t *testing.T) {
	for _, n := range []int{0, 1, 500, 998, 999} {
		left := slices.Delete(upTo(mostFlying), n, n+1)
		x := fullAir(t)
		wantErrno(t, "Drop", x.Drop(n), api.OK)
		wantErrno(t, "Send", x.Send(numbered(5000)), api.OK)
		wantErrno(t, "Send", x.Send(numbered(5001)), api.ErrAirFull)
		wantNumbered(t, "sent again", x, append(slices.Clone(left), 5000))
		x = fullAir(t)
		if p, e := x.Deliver(n); p != numbered(n) || e != api.OK {
			t.Errorf("Deliver(%d): %v, %d", n, p, e)
		}
		wantErrno(t, "Double", x.Double(3), api.OK)
		wantErrno(t, "Double", x.Double(3), api.ErrAirFull)
		wantNumbered(t, "doubled again", x, append(slices.Clone(left), left[3]))
	}
}

// TestDoubledToTheBrim: doubling alone fills it up, too.
func TestDoubledToTheBrim(t *testing.T) {
	x := airOf(t, "a")
	for n := range mostFlying - 1 {
		wantErrno(t, "Double", x.Double(n), api.OK)
	}
	wantErrno(t, "Double", x.Double(0), api.ErrAirFull)
	wantFlying(t, "doubled", x, strings.Repeat("a", mostFlying))
}

// TestEmptied: all go, from the first one on and from the last one on.
func TestEmptied(t *testing.T) {
	x := fullAir(t)
	for n := range mostFlying {
		if p, e := x.Deliver(0); p != numbered(n) || e != api.OK {
			t.Fatalf("%v, %d at %d", p, e, n)
		}
	}
	wantNone(t, x, 0)
	x = fullAir(t)
	for n := mostFlying - 1; n >= 0; n-- {
		if p, e := x.Deliver(n); p != numbered(n) || e != api.OK {
			t.Fatalf("%v, %d at %d", p, e, n)
		}
	}
	wantNone(t, x, 0)
}

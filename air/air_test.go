package air_test

import (
	"math"
	"slices"
	"testing"

	"callbox/air"
	"callbox/api"
)

// packet is one that is told from others by a letter.
func packet(letter string) api.Packet {
	return api.Packet{From: 100 + int(letter[0]), To: 200 + int(letter[0]), Data: letter}
}

func packets(letters string) []api.Packet {
	var out []api.Packet
	for i := range len(letters) {
		out = append(out, packet(letters[i:i+1]))
	}
	return out
}

// airOf has one under way for each letter.
func airOf(t *testing.T, letters string) *air.Air {
	t.Helper()
	x := air.New()
	for _, p := range packets(letters) {
		if e := x.Send(p); e != api.OK {
			t.Fatalf("Send(%v): %d", p, e)
		}
	}
	wantFlying(t, "sent", x, letters)
	return x
}

func wantFlying(t *testing.T, what string, x *air.Air, letters string) {
	t.Helper()
	if got := x.Flying(); !slices.Equal(got, packets(letters)) {
		t.Errorf("%s: under way are %v, not %s", what, got, letters)
	}
}

func wantDelivered(t *testing.T, x *air.Air, n int, letter string) {
	t.Helper()
	if p, e := x.Deliver(n); p != packet(letter) || e != api.OK {
		t.Errorf("Deliver(%d): %v, %d", n, p, e)
	}
}

func wantErrno(t *testing.T, what string, got, want api.Errno) {
	t.Helper()
	if got != want {
		t.Errorf("%s: %d, not %d", what, got, want)
	}
}

// wantNone is A3 of a number that none under way has: nothing is told, and nothing changes.
func wantNone(t *testing.T, x *air.Air, n int) {
	t.Helper()
	before, now := x.Flying(), x.Now()
	if p, e := x.Deliver(n); p != (api.Packet{}) || e != api.ErrAirPick {
		t.Errorf("Deliver(%d): %v, %d", n, p, e)
	}
	wantErrno(t, "Drop", x.Drop(n), api.ErrAirPick)
	wantErrno(t, "Double", x.Double(n), api.ErrAirPick)
	if got := x.Flying(); !slices.Equal(got, before) || x.Now() != now {
		t.Errorf("%d: under way are %v, not %v", n, got, before)
	}
}

// TestExample is the chapter's.
func TestExample(t *testing.T) {
	x := airOf(t, "abc")
	wantErrno(t, "Double", x.Double(0), api.OK)
	wantFlying(t, "doubled", x, "abca")
	wantDelivered(t, x, 1, "b")
	wantFlying(t, "delivered", x, "aca")
	wantErrno(t, "Drop", x.Drop(0), api.OK)
	wantFlying(t, "dropped", x, "ca")
	wantDelivered(t, x, 1, "a")
	wantNone(t, x, 1)
	wantNone(t, x, -1)
	if a, b, c := x.Tick(), x.Tick(), x.Now(); a != 1 || b != 2 || c != 2 {
		t.Errorf("the time: %d, %d, %d", a, b, c)
	}
	wantFlying(t, "at the end", x, "c")
}

// TestNew is A1; an Air that nobody made is one like it.
func TestNew(t *testing.T) {
	for _, x := range []*air.Air{air.New(), new(air.Air)} {
		if x == nil {
			t.Fatal("no Air")
		}
		if l, n := x.Flying(), x.Now(); len(l) != 0 || n != 0 {
			t.Errorf("%v under way, at %d", l, n)
		}
		wantNone(t, x, 0)
		wantErrno(t, "Send", x.Send(packet("a")), api.OK)
		wantFlying(t, "sent", x, "a")
		if n := x.Tick(); n != 1 {
			t.Errorf("Tick: %d", n)
		}
	}
}

// TestSendAnything is A2: From and To are not looked at, nor is what the bytes are; it comes as it was.
func TestSendAnything(t *testing.T) {
	numbers := []int{0, -1, 1, api.MaxAddress, api.MaxAddress + 1, math.MinInt, math.MaxInt}
	texts := []string{"", "\x00", "\xff\xfe", "ab\x00", "\u00e4\n"}
	x := air.New()
	var sent []api.Packet
	for _, from := range numbers {
		for _, to := range numbers {
			for _, data := range texts {
				p := api.Packet{From: from, To: to, Data: data}
				wantErrno(t, "Send", x.Send(p), api.OK)
				sent = append(sent, p)
			}
		}
	}
	if !slices.Equal(x.Flying(), sent) {
		t.Error("they are under way otherwise than they were sent")
	}
	for _, p := range sent {
		if q, e := x.Deliver(0); q != p || e != api.OK {
			t.Fatalf("%v came as %v, %d", p, q, e)
		}
	}
}

// TestAlike: two that are the same are two.
func TestAlike(t *testing.T) {
	x := airOf(t, "aaa")
	wantDelivered(t, x, 1, "a")
	wantFlying(t, "delivered", x, "aa")
	wantErrno(t, "Drop", x.Drop(1), api.OK)
	wantFlying(t, "dropped", x, "a")
	wantErrno(t, "Double", x.Double(0), api.OK)
	wantFlying(t, "doubled", x, "aa")
}

// TestEachPlace is A3: at the first number, at each one, at the last one.
func TestEachPlace(t *testing.T) {
	const all = "abcdefg"
	for n := range len(all) {
		left := all[:n] + all[n+1:]
		x := airOf(t, all)
		wantDelivered(t, x, n, all[n:n+1])
		wantFlying(t, "delivered", x, left)
		x = airOf(t, all)
		wantErrno(t, "Drop", x.Drop(n), api.OK)
		wantFlying(t, "dropped", x, left)
		wantErrno(t, "Send", x.Send(packet("z")), api.OK)
		wantFlying(t, "dropped, one sent", x, left+"z")
		x = airOf(t, all)
		wantErrno(t, "Double", x.Double(n), api.OK)
		wantFlying(t, "doubled", x, all+all[n:n+1])
		wantDelivered(t, x, len(all), all[n:n+1])
		wantFlying(t, "the other one delivered", x, all)
	}
}

// TestNoSuchNumber is A3's ErrAirPick, at all kinds of numbers, however many are under way.
func TestNoSuchNumber(t *testing.T) {
	for _, letters := range []string{"", "a", "abc"} {
		x := airOf(t, letters)
		x.Tick()
		for _, n := range []int{-1, -2, len(letters), len(letters) + 1, 1000, 1 << 31, 1 << 32, -1 << 32, math.MinInt, math.MaxInt} {
			wantNone(t, x, n)
		}
	}
}

// TestGone is A3: what was delivered or dropped is gone, and the one that was doubled goes on.
func TestGone(t *testing.T) {
	x := airOf(t, "ab")
	wantErrno(t, "Double", x.Double(1), api.OK)
	wantErrno(t, "Drop", x.Drop(1), api.OK)
	wantFlying(t, "dropped", x, "ab")
	wantDelivered(t, x, 1, "b")
	wantNone(t, x, 1)
	wantDelivered(t, x, 0, "a")
	wantNone(t, x, 0)
	wantErrno(t, "Send", x.Send(packet("c")), api.OK)
	wantFlying(t, "sent again", x, "c")
}

// TestTime is A4: Tick alone lets it go on, and it changes nothing else.
func TestTime(t *testing.T) {
	x := airOf(t, "abc")
	for i := range 2000 {
		if n := x.Now(); n != i {
			t.Fatalf("Now: %d, not %d", n, i)
		}
		if n := x.Tick(); n != i+1 {
			t.Fatalf("Tick: %d, not %d", n, i+1)
		}
	}
	wantFlying(t, "much later", x, "abc")
	x.Send(packet("d"))
	x.Double(0)
	x.Drop(1)
	x.Deliver(0)
	x.Deliver(77)
	x.Flying()
	if n := x.Now(); n != 2000 {
		t.Errorf("Now: %d", n)
	}
}

// TestAsking is A4: Flying and Now change nothing, as often as they are called.
func TestAsking(t *testing.T) {
	x := airOf(t, "abc")
	x.Tick()
	for range 5 {
		wantFlying(t, "again", x, "abc")
		if n := x.Now(); n != 1 {
			t.Errorf("Now: %d", n)
		}
	}
}

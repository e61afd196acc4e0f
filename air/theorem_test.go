package air_test

import (
	"math/rand"
	"strconv"
	"strings"
	"testing"

	"callbox/air"
	"callbox/api"
)

// makeNumber is mostly one that one of so many has.
func makeNumber(r *rand.Rand, count int) int {
	switch r.Intn(8) {
	case 0:
		return count
	case 1:
		return -1 - r.Intn(3)
	case 2:
		return int(r.Uint64())
	}
	return r.Intn(count + 1)
}

// makePacket is at times too long, at times like many others.
func makePacket(r *rand.Rand) api.Packet {
	switch r.Intn(10) {
	case 0:
		return api.Packet{}
	case 1:
		return api.Packet{From: r.Int(), Data: strings.Repeat("z", mostBytes+r.Intn(2))}
	}
	return api.Packet{From: int(r.Uint64()), To: r.Intn(3), Data: strconv.Itoa(r.Intn(1000))}
}

func makeStep(r *rand.Rand, weights [kinds]int, count int) step {
	total := 0
	for _, w := range weights {
		total += w
	}
	at := r.Intn(total)
	kind := 0
	for at >= weights[kind] {
		at -= weights[kind]
		kind++
	}
	return step{kind: kind, n: makeNumber(r, count), p: makePacket(r)}
}

// TestAsModel is A2 to A5: after each of many steps, what a list of all that ever was says.
func TestAsModel(t *testing.T) {
	r := rand.New(rand.NewSource(13))
	for range 300 {
		x, m := air.New(), newModel()
		weights := [kinds]int{1 + r.Intn(5), 1 + r.Intn(3), 1 + r.Intn(3), 1 + r.Intn(3), 1}
		for range 200 {
			s := makeStep(r, weights, len(x.Flying()))
			if wrong := s.play(x, m); wrong != "" {
				t.Fatalf("%v: %s", s, wrong)
			}
		}
	}
}

// TestAsModelAtTheBrim is the same, where it is full or nearly so.
func TestAsModelAtTheBrim(t *testing.T) {
	r := rand.New(rand.NewSource(14))
	x, m := air.New(), newModel()
	full := 0
	for i := range 4000 {
		weights := [kinds]int{4, 2, 2, 4, 1}
		if i < 1200 {
			weights = [kinds]int{12, 0, 1, 4, 0}
		}
		s := makeStep(r, weights, len(x.Flying()))
		if wrong := s.play(x, m); wrong != "" {
			t.Fatalf("%v: %s", s, wrong)
		}
		if len(x.Flying()) == mostFlying {
			full++
		}
	}
	if full < 100 {
		t.Errorf("full %d times only", full)
	}
}

// TestNothingIsMadeUp is A5: each one that is sent once, and is not doubled, is delivered once or dropped once, as it was.
func TestNothingIsMadeUp(t *testing.T) {
	r := rand.New(rand.NewSource(15))
	for range 200 {
		x := air.New()
		left := map[api.Packet]int{}
		for n := range 100 {
			p := api.Packet{From: n, To: r.Int(), Data: strconv.Itoa(n)}
			wantErrno(t, "Send", x.Send(p), api.OK)
			left[p]++
		}
		for range 50 {
			n := r.Intn(len(x.Flying()))
			left[x.Flying()[n]]++
			wantErrno(t, "Double", x.Double(n), api.OK)
		}
		for len(x.Flying()) > 0 {
			p, e := x.Deliver(r.Intn(len(x.Flying())))
			if left[p]--; e != api.OK || left[p] < 0 {
				t.Fatalf("%v came, %d", p, e)
			}
		}
		for p, n := range left {
			if n != 0 {
				t.Fatalf("%v is still to come %d times", p, n)
			}
		}
	}
}

// FuzzSteps takes two bytes for each step: which call, and its number or what is sent.
func FuzzSteps(f *testing.F) {
	f.Add("\x00a\x00b\x00c\x03\x00\x01\x01\x02\x00\x01\x01\x01\x01\x01\xff\x04\x00")
	f.Add("\x00\xfe\x00\xff\x03\x00\x03\x01\x02\x03")
	f.Fuzz(func(t *testing.T, text string) {
		x, m := air.New(), newModel()
		for i := 0; i+1 < len(text); i += 2 {
			n := int(int8(text[i+1]))
			s := step{kind: int(text[i]) % kinds, n: n, p: api.Packet{From: n, Data: strings.Repeat(text[i+1:i+2], n&3*501)}}
			if wrong := s.play(x, m); wrong != "" {
				t.Fatalf("%v: %s", s, wrong)
			}
		}
	})
}

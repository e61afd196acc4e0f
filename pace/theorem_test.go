package pace_test

import (
	"math"
	"math/rand"
	"testing"

	"callbox/api"
	"callbox/pace"
)

// wantAsWaits is W1 to W3 of one pace, and W6's first half.
func wantAsWaits(t *testing.T, p api.Pace) {
	t.Helper()
	all, total := waits(p), 0
	wantRight(t, p, all != nil)
	for n, want := range all {
		wantWait(t, p, n, want)
		total += want
	}
	wantTotal(t, p, total)
	if all == nil {
		wantWait(t, p, 0, 0)
		return
	}
	if total < p.Tries*p.Base || total > p.Tries*p.Cap {
		t.Errorf("%v: the total is %d", p, total)
	}
	ahead := pace.Wait(p, -1)
	for n := range p.Tries + 40 {
		wait := pace.Wait(p, n)
		if wait < ahead || wait < 1 || wait > p.Cap || wait > 2*ahead {
			t.Errorf("%v: wait %d is %d, behind %d", p, n, wait, ahead)
		}
		ahead = wait
	}
}

// TestAllSmallPaces: all there are of small numbers, also those that may not be.
func TestAllSmallPaces(t *testing.T) {
	for base := -1; base <= 18; base++ {
		for top := -1; top <= 40; top++ {
			for tries := -1; tries <= 34; tries++ {
				wantAsWaits(t, paceOf(base, top, tries))
			}
		}
	}
}

// makeNumber is mostly one that may be, near a power of two.
func makeNumber(r *rand.Rand) int {
	switch r.Intn(12) {
	case 0:
		return int(r.Uint64())
	case 1:
		return -r.Intn(5)
	case 2:
		return mostWait - 2 + r.Intn(5)
	case 3:
		return []int{math.MinInt, math.MaxInt, 1 << 32, 1 << 24, 0}[r.Intn(5)]
	}
	return r.Intn(1 + 1<<r.Intn(21))
}

// TestManyPaces is W1 to W3 and W6 of great ones.
func TestManyPaces(t *testing.T) {
	r := rand.New(rand.NewSource(16))
	for range 20000 {
		p := paceOf(makeNumber(r), makeNumber(r), r.Intn(36)-1)
		if r.Intn(3) > 0 && p.Base > p.Cap {
			p.Base, p.Cap = p.Cap, p.Base
		}
		wantAsWaits(t, p)
	}
}

// bounds are what W6 lets the mean and the spread be.
type bounds struct {
	times               int
	first, least, great float64
}

func (b *bounds) hear(ticks int) {
	x := float64(max(0, min(ticks, mostWait)))
	if b.times == 0 {
		b.first, b.least, b.great = x, x, x
	}
	b.least, b.great = min(b.least, x), max(b.great, x)
	b.times++
}

func (b *bounds) hold(m *pace.Meter) bool {
	mean, spread, guess := float64(m.Mean()), float64(m.Spread()), m.Guess()
	return mean >= b.least && mean <= b.great && !math.Signbit(mean) &&
		spread >= 0 && spread <= max(b.first/2, b.great-b.least) && !math.Signbit(spread) &&
		float64(guess) >= mean && guess <= mostWait
}

// wantAsFractions is W4, W5 and W6's second half, behind each step.
func wantAsFractions(t *testing.T, steps []int) {
	t.Helper()
	m, f, b := pace.NewMeter(), newFractions(), &bounds{}
	if wrong := f.unlike(m); wrong != "" {
		t.Fatalf("a new one: %s", wrong)
	}
	for i, n := range steps {
		m.Hear(n)
		f.hear(n)
		b.hear(n)
		if wrong := f.unlike(m); wrong != "" {
			t.Fatalf("%v: %s", steps[:i+1], wrong)
		}
		if !b.hold(m) {
			t.Fatalf("%v: mean %v, spread %v, guess %d: out of bounds", steps[:i+1], m.Mean(), m.Spread(), m.Guess())
		}
	}
}

// TestAllShortHearings: all of up to four numbers out of some.
func TestAllShortHearings(t *testing.T) {
	some := []int{-1, 0, 1, 2, 7, 1000003, mostWait, mostWait + 1}
	for number := range 8 * 8 * 8 * 8 {
		var steps []int
		for rest := number; len(steps) < 4; rest /= 8 {
			steps = append(steps, some[rest%8])
		}
		wantAsFractions(t, steps)
	}
}

// TestManyHearings: of whatever numbers, of numbers close to one another, and of few that come again and again.
func TestManyHearings(t *testing.T) {
	r := rand.New(rand.NewSource(17))
	for range 150 {
		var steps []int
		at, width, hold := makeNumber(r), 1+r.Intn(1<<r.Intn(20)), 1+r.Intn(40)
		for n := range 200 {
			switch {
			case n%hold == 0:
				at = makeNumber(r)
			case r.Intn(3) == 0:
				at = max(0, min(at, mostWait)) + r.Intn(width) - width/2
			}
			steps = append(steps, at)
		}
		wantAsFractions(t, steps)
	}
}

// TestLongHearings: one number, then another one so often that nothing moves any more.
func TestLongHearings(t *testing.T) {
	for _, x := range [][2]int{{mostWait, 0}, {0, mostWait}, {1, 0}, {0, 1}, {mostWait, 1}, {1, mostWait}, {mostWait, mostWait - 1}, {mostWait - 1, mostWait}, {3, 3}, {mostWait, mostWait}, {0, 0}, {699051, 349525}} {
		wantAsFractions(t, append([]int{x[0]}, again(x[1], 950)...))
	}
	var turns []int
	for n := range 300 {
		turns = append(turns, n%2*mostWait)
	}
	wantAsFractions(t, turns)
}

// TestAllFirstHearings: each number there is, as the first one, and once more.
func TestAllFirstHearings(t *testing.T) {
	for n := range mostWait + 1 {
		m := pace.NewMeter()
		for times := range 2 {
			m.Hear(n)
			spread := []float32{float32(n) / 2, float32(n) / 8 * 3}[times]
			guess := []int{3 * n, (5*n + 1) / 2}[times]
			if m.Mean() != float32(n) || m.Spread() != spread || m.Guess() != min(guess, mostWait) {
				t.Fatalf("%d: mean %v, spread %v, guess %d", n, m.Mean(), m.Spread(), m.Guess())
			}
		}
	}
}

// FuzzHear takes three bytes for each number that a meter hears, 2^23 being 0.
func FuzzHear(f *testing.F) {
	f.Add("\x80\x00\x08\x80\x00\x10\x7f\xff\xfd")
	f.Add("\x90\x00\x00\x80\x00\x00\x80\x00\x00\x90\x00\x01")
	f.Fuzz(func(t *testing.T, text string) {
		var steps []int
		for i := 0; i+2 < len(text) && len(steps) < 300; i += 3 {
			steps = append(steps, int(text[i])<<16+int(text[i+1])<<8+int(text[i+2])-1<<23)
		}
		wantAsFractions(t, steps)
	})
}

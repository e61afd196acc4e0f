package pace_test

import (
	"math"
	"testing"

	"callbox/api"
	"callbox/pace"
)

const (
	mostWait  = 1 << 20
	mostTries = 32
)

func paceOf(base, top, tries int) api.Pace { return api.Pace{Base: base, Cap: top, Tries: tries} }

func wantWait(t *testing.T, p api.Pace, n, want int) {
	t.Helper()
	if got := pace.Wait(p, n); got != want {
		t.Errorf("Wait(%v, %d): %d, not %d", p, n, got, want)
	}
}

func wantTotal(t *testing.T, p api.Pace, want int) {
	t.Helper()
	if got := pace.Total(p); got != want {
		t.Errorf("Total(%v): %d, not %d", p, got, want)
	}
}

func wantRight(t *testing.T, p api.Pace, want bool) {
	t.Helper()
	if got := pace.Right(p); got != want {
		t.Errorf("Right(%v): %v", p, got)
	}
}

// TestExampleOfWaits is the chapter's first.
func TestExampleOfWaits(t *testing.T) {
	p := paceOf(2, 8, 4)
	wantRight(t, p, true)
	for n, want := range []int{2, 4, 8, 8} {
		wantWait(t, p, n, want)
	}
	wantTotal(t, p, 22)
	wantWait(t, p, 100, 8)
	wantWait(t, p, -1, 2)

	wrong := paceOf(2, 1, 4)
	wantRight(t, wrong, false)
	wantWait(t, wrong, 0, 0)
	wantTotal(t, wrong, 0)
}

// TestRightAtTheEdges is W1: each bound, the last number within and the first one beyond.
func TestRightAtTheEdges(t *testing.T) {
	for _, p := range []api.Pace{
		paceOf(1, 1, 1), paceOf(1, 1, mostTries), paceOf(1, mostWait, 1), paceOf(1, mostWait, mostTries),
		paceOf(mostWait, mostWait, 1), paceOf(mostWait, mostWait, mostTries),
		paceOf(mostWait-1, mostWait, 2), paceOf(7, 7, 2), paceOf(7, 8, 31),
	} {
		wantRight(t, p, true)
	}
	for _, p := range wrongPaces() {
		wantRight(t, p, false)
	}
}

// wrongPaces are out of one bound each, but for some at the end.
func wrongPaces() []api.Pace {
	return []api.Pace{
		paceOf(0, 8, 4), paceOf(-1, 8, 4), paceOf(math.MinInt, 8, 4),
		paceOf(2, 1, 4), paceOf(8, 7, 4), paceOf(2, 0, 4), paceOf(2, -8, 4), paceOf(2, math.MinInt, 4), paceOf(mostWait, mostWait-1, 4),
		paceOf(2, mostWait+1, 4), paceOf(2, math.MaxInt, 4),
		paceOf(2, 8, 0), paceOf(2, 8, -1), paceOf(2, 8, math.MinInt),
		paceOf(2, 8, mostTries+1), paceOf(2, 8, math.MaxInt),
		paceOf(mostWait+1, mostWait+1, 4), paceOf(mostWait+1, mostWait, 4), paceOf(math.MaxInt, math.MaxInt, 4),
		paceOf(0, 0, 4), paceOf(-2, -1, 4), paceOf(0, 0, 0),
		paceOf(math.MinInt, math.MinInt, math.MinInt), paceOf(math.MaxInt, math.MaxInt, math.MaxInt), paceOf(math.MinInt, math.MaxInt, math.MaxInt),
	}
}

// TestWrongPaceHasNoWaits is W2 and W3 of a pace that may not be, whatever is asked.
func TestWrongPaceHasNoWaits(t *testing.T) {
	for _, p := range wrongPaces() {
		for _, n := range []int{0, 1, 3, 4, 20, 64, -1, math.MinInt, math.MaxInt} {
			wantWait(t, p, n, 0)
		}
		wantTotal(t, p, 0)
	}
}

// TestWaitsDouble is W2: up to Cap, which need not be Base times a power of two.
func TestWaitsDouble(t *testing.T) {
	for _, x := range []struct {
		p     api.Pace
		waits []int
	}{
		{paceOf(1, mostWait, 32), []int{1, 2, 4, 8, 16, 32, 64, 128, 256, 512, 1024, 2048, 4096, 8192, 16384, 32768, 65536, 131072, 262144, 524288, 1048576, 1048576, 1048576}},
		{paceOf(3, 20, 5), []int{3, 6, 12, 20, 20, 20}},
		{paceOf(3, 24, 5), []int{3, 6, 12, 24, 24}},
		{paceOf(3, 23, 5), []int{3, 6, 12, 23, 23}},
		{paceOf(3, 25, 5), []int{3, 6, 12, 24, 25, 25}},
		{paceOf(5, 5, 2), []int{5, 5, 5}},
		{paceOf(5, 6, 2), []int{5, 6, 6}},
		{paceOf(mostWait, mostWait, 32), []int{mostWait, mostWait}},
		{paceOf(mostWait-1, mostWait, 32), []int{mostWait - 1, mostWait, mostWait}},
		{paceOf(mostWait/2, mostWait, 3), []int{mostWait / 2, mostWait, mostWait}},
	} {
		for n, want := range x.waits {
			wantWait(t, x.p, n, want)
		}
		total := 0
		for n := range x.p.Tries {
			total += x.waits[min(n, len(x.waits)-1)]
		}
		wantTotal(t, x.p, total)
	}
}

// TestWaitOfAnyNumber is W2: below 0 it counts as 0, and how great it is does not matter, to Tries nor to time.
func TestWaitOfAnyNumber(t *testing.T) {
	for _, p := range []api.Pace{paceOf(1, 1, 1), paceOf(2, 8, 4), paceOf(3, 1000, 1), paceOf(1, mostWait, 32), paceOf(mostWait, mostWait, 32)} {
		for _, n := range []int{-1, -2, -63, -64, -1 << 32, math.MinInt, math.MinInt + 1} {
			wantWait(t, p, n, p.Base)
		}
		for _, n := range []int{20, 31, 32, 33, 43, 44, 62, 63, 64, 65, 100, 128, 1 << 31, 1 << 32, 1<<32 + 1, 1 << 62, math.MaxInt} {
			wantWait(t, p, n, p.Cap)
		}
	}
	wantWait(t, paceOf(3, 1000, 1), 1, 6)
	wantWait(t, paceOf(3, 1000, 1), 8, 768)
	wantWait(t, paceOf(3, 1000, 1), 9, 1000)
}

// TestTotals is W3, told by hand.
func TestTotals(t *testing.T) {
	for _, x := range []struct {
		p    api.Pace
		want int
	}{
		{paceOf(1, 1, 1), 1},
		{paceOf(7, 100, 1), 7},
		{paceOf(7, 100, 2), 21},
		{paceOf(7, 100, 4), 105},
		{paceOf(7, 100, 5), 205},
		{paceOf(1, 1, 32), 32},
		{paceOf(1, mostWait, 21), 1<<21 - 1},
		{paceOf(1, mostWait, 32), 1<<21 - 1 + 11*mostWait},
		{paceOf(mostWait, mostWait, 32), 32 * mostWait},
	} {
		wantTotal(t, x.p, x.want)
	}
}

// TestPaceTakesNothing: a pace is a few numbers, and so is what is told of it.
func TestPaceTakesNothing(t *testing.T) {
	p := paceOf(3, 1000, 32)
	if n := testing.AllocsPerRun(100, func() { pace.Right(p); pace.Wait(p, math.MaxInt); pace.Total(p) }); n != 0 {
		t.Errorf("memory is taken %v times", n)
	}
}

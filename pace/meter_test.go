package pace_test

import (
	"math"
	"testing"

	"callbox/pace"
)

// wantMeter holds the bits of what a meter tells against those of what is wanted: 0 and -0 are two.
func wantMeter(t *testing.T, m *pace.Meter, mean, spread float32, guess int) {
	t.Helper()
	x, y, z := m.Mean(), m.Spread(), m.Guess()
	if math.Float32bits(x) != math.Float32bits(mean) || math.Float32bits(y) != math.Float32bits(spread) || z != guess {
		t.Errorf("mean %v, spread %v, guess %d, not %v, %v, %d", x, y, z, mean, spread, guess)
	}
}

func heard(ticks ...int) *pace.Meter {
	m := pace.NewMeter()
	for _, n := range ticks {
		m.Hear(n)
	}
	return m
}

// again are so many of one number.
func again(n, times int) []int {
	out := make([]int, times)
	for i := range out {
		out[i] = n
	}
	return out
}

// TestExamplesOfMeters are the chapter's second and third.
func TestExamplesOfMeters(t *testing.T) {
	m := pace.NewMeter()
	wantMeter(t, m, 0, 0, 0)
	m.Hear(8)
	wantMeter(t, m, 8, 4, 24)
	m.Hear(16)
	wantMeter(t, m, 9, 5, 29)
	m.Hear(-3)
	wantMeter(t, m, 7.875, 6, 32)
	wantMeter(t, heard(mostWait), 1048576, 524288, 1048576)
	wantMeter(t, heard(mostWait+1), 1048576, 524288, 1048576)
	wantMeter(t, heard(1<<40), 1048576, 524288, 1048576)
}

// TestNumbersBeyond is W4: what is out of 0 to 2^20 counts as the nearest within, the first time and each other time.
func TestNumbersBeyond(t *testing.T) {
	for _, x := range []struct{ n, counts int }{
		{-1, 0}, {-mostWait, 0}, {math.MinInt, 0}, {math.MinInt + 1, 0}, {-1 << 32, 0},
		{mostWait + 1, mostWait}, {1<<24 + 1, mostWait}, {1 << 32, mostWait}, {1 << 62, mostWait}, {math.MaxInt, mostWait},
	} {
		for _, ahead := range [][]int{nil, {0}, {5}, {mostWait}, {3, 9}} {
			a, b := heard(append(ahead, x.n)...), heard(append(ahead, x.counts)...)
			wantMeter(t, a, b.Mean(), b.Spread(), b.Guess())
		}
	}
	wantMeter(t, heard(math.MinInt), 0, 0, 0)
	wantMeter(t, heard(math.MaxInt), 1048576, 524288, 1048576)
	wantMeter(t, heard(mostWait-1), 1048575, 524287.5, 1048576)
}

// TestTheFirstTime is W4: the first one is the first also if it is 0, and the next one is not.
func TestTheFirstTime(t *testing.T) {
	wantMeter(t, heard(1), 1, 0.5, 3)
	wantMeter(t, heard(7), 7, 3.5, 21)
	wantMeter(t, heard(0), 0, 0, 0)
	wantMeter(t, heard(0, 8), 1, 2, 9)
	wantMeter(t, heard(-5, 8), 1, 2, 9)
	wantMeter(t, heard(0, 0), 0, 0, 0)
	wantMeter(t, heard(0, 0, 0, 8), 1, 2, 9)
	wantMeter(t, heard(8, 0), 7, 5, 27)
	wantMeter(t, heard(8, 8), 8, 3, 20)
}

// TestGuessIsTheLeastNotBelow is W5: of a whole sum it is that; of all else it is the next one; it is never above 2^20.
func TestGuessIsTheLeastNotBelow(t *testing.T) {
	wantMeter(t, heard(8, 16), 9, 5, 29)
	wantMeter(t, heard(3, 5), 3.25, 1.625, 10)             // 9.75
	wantMeter(t, heard(3, 5, 7), 3.71875, 2.15625, 13)     // 12.34375
	wantMeter(t, heard(2, 3), 2.125, 1, 7)                 // 6.125
	wantMeter(t, heard(0, 1), 0.125, 0.25, 2)              // 1.125
	wantMeter(t, heard(349525), 349525, 174762.5, 1048575) // three times that
	wantMeter(t, heard(349526), 349526, 174763, 1048576)   // 1048578
	wantMeter(t, heard(349525, 349526), 349525.125, 131072.125, 873814)
	wantMeter(t, heard(mostWait, mostWait), 1048576, 393216, 1048576)
}

// TestEachStepIsRounded holds meters against bits that were reckoned elsewhere, each step rounded to 24 digits by itself.
func TestEachStepIsRounded(t *testing.T) {
	for _, x := range []struct {
		steps []int
		want  [][3]uint32 // the bits of the mean and of the spread, the guess
	}{
		{
			[]int{1, 1048576, 3, 999999, 7, 123457, 1, 1048575, 2, 77777},
			[][3]uint32{{0x3f800000, 0x3f000000, 3}, {0x48000038, 0x48800004, 1048576}, {0x47e00092, 0x485fffe4, 1032192}, {0x485c1238, 0x48c011e4, 1048576}, {0x48409029, 0x48ab8f7a, 1048576}, {0x4837902c, 0x4889ab98, 1048576}, {0x48209e2e, 0x487c655f, 1048576}, {0x48864530, 0x48ca9236, 1048576}, {0x486af924, 0x48b97ee4, 1048576}, {0x48571888, 0x489effc8, 1048576}},
		},
		{
			[]int{3, 5, 7, 11, 13, 17, 19, 23, 29, 31},
			[][3]uint32{{0x40400000, 0x3fc00000, 9}, {0x40500000, 0x3fd00000, 10}, {0x406e0000, 0x400a0000, 13}, {0x40942000, 0x405c0000, 19}, {0x40b59c00, 0x40957800, 25}, {0x40e2e880, 0x40cab300, 33}, {0x410945b8, 0x40f74c20, 40}, {0x41261d01, 0x41166b1e, 48}, {0x414b5961, 0x413b4916, 60}, {0x416fee35, 0x4155a078, 69}},
		},
	} {
		m := pace.NewMeter()
		for i, n := range x.steps {
			m.Hear(n)
			w := x.want[i]
			wantMeter(t, m, math.Float32frombits(w[0]), math.Float32frombits(w[1]), int(w[2]))
		}
	}
}

// TestSumOfGuessIsRounded: 4 times the spread is so little in the end that the rounded sum is the mean itself, though the sum is above it.
func TestSumOfGuessIsRounded(t *testing.T) {
	wantMeter(t, heard(again(300000, 61)...), 300000, math.Float32frombits(0x3b9cc0e0), 300001)
	wantMeter(t, heard(again(300000, 62)...), 300000, math.Float32frombits(0x3b6b2150), 300000)
	wantMeter(t, heard(again(5, 60)...), 5, math.Float32frombits(0x33e449e8), 6)
	wantMeter(t, heard(again(5, 200)...), 5, math.Float32frombits(0x16d43a21), 5)
}

// TestTheLeastNumbers: a meter that hears 0 for ever comes down to numbers of few digits, where an eighth is rounded too, and stays there.
func TestTheLeastNumbers(t *testing.T) {
	m := heard(mostWait)
	for n, want := range map[int][2]uint32{100: {0x3fd51d9c, 0x40551d9b}, 300: {0x2c93b1ea, 0x2d13b1ea}, 500: {0x194cb698, 0x19ccb698}, 900: {4, 6}, 2000: {4, 6}} {
		x := heard(append([]int{mostWait}, again(0, n)...)...)
		if a, b := math.Float32bits(x.Mean()), math.Float32bits(x.Spread()); a != want[0] || b != want[1] {
			t.Errorf("behind %d: %x, %x, not %x", n, a, b, want)
		}
	}
	for range 2000 {
		m.Hear(0)
	}
	if m.Guess() != 1 {
		t.Errorf("guess %d, not 1", m.Guess())
	}
	m.Hear(8)
	wantMeter(t, m, 1, 2, 9)
}

// TestAskingChangesNothing: what a meter tells hangs on what it heard alone.
func TestAskingChangesNothing(t *testing.T) {
	a, b := pace.NewMeter(), pace.NewMeter()
	for _, n := range []int{9, 2, 77, 0, 1 << 30, 5} {
		a.Hear(n)
		b.Hear(n)
		for range 3 {
			b.Guess()
			b.Mean()
			b.Spread()
		}
		wantMeter(t, b, a.Mean(), a.Spread(), a.Guess())
	}
}

// TestMetersAreApart: one hears nothing of what another does, nor does a copy.
func TestMetersAreApart(t *testing.T) {
	a, b := pace.NewMeter(), pace.NewMeter()
	a.Hear(8)
	wantMeter(t, b, 0, 0, 0)
	b.Hear(100)
	wantMeter(t, a, 8, 4, 24)
	c := *a
	c.Hear(16)
	wantMeter(t, a, 8, 4, 24)
	a.Hear(8)
	wantMeter(t, &c, 9, 5, 29)
	wantMeter(t, b, 100, 50, 300)
	wantMeter(t, pace.NewMeter(), 0, 0, 0)
}

// TestHearingTakesNothing: however much a meter hears, it keeps no more.
func TestHearingTakesNothing(t *testing.T) {
	m := pace.NewMeter()
	if n := testing.AllocsPerRun(1000, func() { m.Hear(7); m.Guess() }); n != 0 {
		t.Errorf("memory is taken %v times", n)
	}
}

package pace_test

import (
	"fmt"
	"math/big"

	"callbox/api"
	"callbox/pace"
)

// fractions is a meter that reckons by whole numbers over whole numbers, which are exact, and rounds behind each step.
type fractions struct {
	times        int
	mean, spread *big.Rat
}

func newFractions() *fractions { return &fractions{mean: new(big.Rat), spread: new(big.Rat)} }

func whole(n int) *big.Rat { return big.NewRat(int64(n), 1) }

// round is the nearest number of 32 bits, of two as near that whose last bit is 0.
func round(x *big.Rat) *big.Rat {
	near, _ := x.Float32()
	return new(big.Rat).SetFloat64(float64(near))
}

func sum(a, b *big.Rat) *big.Rat        { return round(new(big.Rat).Add(a, b)) }
func difference(a, b *big.Rat) *big.Rat { return round(new(big.Rat).Sub(a, b)) }
func product(a, b *big.Rat) *big.Rat    { return round(new(big.Rat).Mul(a, b)) }
func quotient(a, b *big.Rat) *big.Rat   { return round(new(big.Rat).Quo(a, b)) }

func (f *fractions) hear(ticks int) {
	x := whole(ticks)
	if ticks < 0 {
		x = whole(0)
	} else if ticks > 1048576 {
		x = whole(1048576)
	}
	f.times++
	if f.times == 1 {
		f.mean, f.spread = x, quotient(x, whole(2))
		return
	}
	e := difference(x, f.mean)
	f.mean = sum(f.mean, quotient(e, whole(8)))
	f.spread = sum(f.spread, quotient(difference(new(big.Rat).Abs(e), f.spread), whole(4)))
}

func (f *fractions) guess() int {
	reach := sum(f.mean, product(whole(4), f.spread))
	n := new(big.Int).Div(reach.Num(), reach.Denom())
	if whole(int(n.Int64())).Cmp(reach) < 0 {
		n.Add(n, big.NewInt(1))
	}
	return min(int(n.Int64()), 1048576)
}

// unlike says in what a meter is not as the fractions have it.
func (f *fractions) unlike(m *pace.Meter) string {
	mean, spread := new(big.Rat).SetFloat64(float64(m.Mean())), new(big.Rat).SetFloat64(float64(m.Spread()))
	switch {
	case mean == nil || mean.Cmp(f.mean) != 0:
		return fmt.Sprintf("mean %b, not %s", m.Mean(), f.mean)
	case spread == nil || spread.Cmp(f.spread) != 0:
		return fmt.Sprintf("spread %b, not %s", m.Spread(), f.spread)
	case m.Guess() != f.guess():
		return fmt.Sprintf("guess %d, not %d", m.Guess(), f.guess())
	}
	return ""
}

// waits are those of a pace, by numbers without a bound; none, if it may not be.
func waits(p api.Pace) []int {
	if p.Base <= 0 || p.Cap < p.Base || p.Cap > 1048576 || p.Tries <= 0 || p.Tries > 32 {
		return nil
	}
	var out []int
	for n := range p.Tries {
		wait := new(big.Int).Lsh(big.NewInt(int64(p.Base)), uint(n))
		if top := big.NewInt(int64(p.Cap)); wait.Cmp(top) > 0 {
			wait = top
		}
		out = append(out, int(wait.Int64()))
	}
	return out
}

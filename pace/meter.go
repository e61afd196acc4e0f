package pace

import (
	"math"

	"callbox/api"
)

// Meter measures how long answers take. Whether it has heard of one is kept apart, since what it heard may be 0.
type Meter struct {
	heard        bool
	mean, spread float32
}

// NewMeter is one that has heard of none.
func NewMeter() *Meter { return &Meter{} }

// Hear takes how long an answer took.
func (m *Meter) Hear(ticks int) {
	x := float32(min(max(ticks, 0), api.MaxWait))
	if !m.heard {
		m.heard, m.mean, m.spread = true, x, float32(x/2)
		return
	}
	e := float32(x - m.mean)
	m.mean = nearer(m.mean, e, 8)
	m.spread = nearer(m.spread, float32(size(e)-m.spread), 4)
}

// nearer is a number, gone by one of so many parts of what is missing. Each step is converted by itself: without that the language lets a quotient and a sum be rounded as one.
func nearer(from, missing, parts float32) float32 {
	step := float32(missing / parts)
	return float32(from + step)
}

func size(f float32) float32 {
	if f < 0 {
		return -f
	}
	return f
}

// Mean is how long answers take.
func (m *Meter) Mean() float32 { return m.mean }

// Spread is how far that goes apart.
func (m *Meter) Spread() float32 { return m.spread }

// Guess is how long one may wait for the next. (Of a meter that has heard nothing the mean and the spread are 0, and so is this.)
func (m *Meter) Guess() int {
	far := float32(4 * m.spread)
	reach := float32(m.mean + far)
	return min(int(math.Ceil(float64(reach))), api.MaxWait)
}

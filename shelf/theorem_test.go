package shelf_test

import (
	"math/rand"
	"testing"
)

// wantAsPlain plays steps with a shelf and with a plain list.
func wantAsPlain(t *testing.T, most int, steps []step) {
	t.Helper()
	x, p := shelfFor[int, int](t, most), &plain{most: most}
	for i, s := range steps {
		if wrong := s.playBoth(x, p); wrong != "" {
			t.Fatalf("for %d, at the step %d of %v: %s", most, i, steps, wrong)
		}
	}
}

// TestAllShortRuns is S6: whatever four steps there are, with three keys, in shelves for 0 to 3, from none on and from as many on as may be.
func TestAllShortRuns(t *testing.T) {
	var each []step
	for k := range 3 {
		each = append(each, step{kind: puts, k: k}, step{kind: drops, k: k})
	}
	for wanted := range uint(8) {
		each = append(each, step{kind: prunes, wanted: wanted})
	}
	var run func(steps []step, left int)
	run = func(steps []step, left int) {
		if left == 0 {
			for most := range 4 {
				wantAsPlain(t, most, steps)
			}
			return
		}
		for _, s := range each {
			s.v = left
			run(append(steps, s), left-1)
		}
	}
	run(make([]step, 0, 4), 4)
	run(append(make([]step, 0, 7), step{k: 0, v: 11}, step{k: 1, v: 12}, step{k: 2, v: 13}), 4)
}

// TestAllShortKeeps is S6 and S5: from three things on, whatever two calls keep makes by turns, whatever it answers.
func TestAllShortKeeps(t *testing.T) {
	var inner []step
	for k := range 4 {
		inner = append(inner, step{kind: puts, k: k, v: 50 + k}, step{kind: drops, k: k})
	}
	for wanted := range uint(16) {
		inner = append(inner, step{kind: prunes, wanted: wanted})
	}
	for most := 3; most <= 4; most++ {
		for _, a := range inner {
			for _, b := range inner {
				for wanted := range uint(16) {
					wantAsPlain(t, most, []step{{k: 0, v: 1}, {k: 1, v: 2}, {k: 2, v: 3}, {kind: prunes, wanted: wanted, inner: []step{a, b}}, {k: 3, v: 4}})
				}
			}
		}
	}
}

func makeStep(r *rand.Rand, keys, deep int) step {
	s := step{kind: puts, k: r.Intn(keys), v: int(r.Uint64())}
	switch r.Intn(12) {
	case 0, 1, 2, 3:
		s.kind = drops
	case 4:
		s.kind = prunes
		s.wanted = uint(r.Uint64()) | uint(r.Uint64())
		for range r.Intn(deep + 1) {
			s.inner = append(s.inner, makeStep(r, keys, deep-1))
		}
	}
	return s
}

// TestLongRuns is S6: with few keys and with many, in shelves small and great, pruned within pruning.
func TestLongRuns(t *testing.T) {
	r := rand.New(rand.NewSource(14))
	for range 1500 {
		keys := 1 + r.Intn(20)
		var steps []step
		for range 100 {
			steps = append(steps, makeStep(r, keys, 2))
		}
		wantAsPlain(t, r.Intn(keys+2), steps)
	}
}

// FuzzSteps takes two bytes for each step, behind one for how many may be: which call, and its key; one that prunes has up to three inner steps.
func FuzzSteps(f *testing.F) {
	f.Add("\x02\x00\x01\x00\x02\x00\x03\x00\x01\x01\x01\x01\x01\x00\x01")
	f.Add("\x05\x00\x01\x00\x02\x00\x03\x00\x04\x02\x03\x00\x05\x01\x02\x02\x07\x00\x01")
	f.Fuzz(func(t *testing.T, text string) {
		if len(text) == 0 {
			return
		}
		var steps []step
		for i := 1; i+1 < len(text); i += 2 {
			a, b := text[i], text[i+1]
			s := step{kind: int(a) % kinds, k: int(b) % 20, v: i, wanted: uint(b) * 0x01020408}
			if n := int(a) / kinds % 4; s.kind == prunes && n < len(steps) {
				s.inner = shallow(steps[len(steps)-n:])
			}
			steps = append(steps, s)
		}
		wantAsPlain(t, int(text[0])%24, steps)
	})
}

// shallow are the steps without inner ones, which would double from step to step.
func shallow(steps []step) []step {
	var out []step
	for _, s := range steps {
		s.inner = nil
		out = append(out, s)
	}
	return out
}

package real_test

import (
	"math"
	"math/rand"
	"testing"

	"callbox/api"
	"callbox/real"
)

const (
	nan32 uint32 = 0x7fc00000
	nan64 uint64 = 0x7ff8000000000000
)

// edges32 and edges64 are bits of numbers, no two the same: both noughts, the least, the last without and the first with a leading one, 1 and its neighbours, the greatest, the infinite ones, NaN.
func edges32() []uint32 {
	out := []uint32{nan32}
	for _, b := range []uint32{0, 1, 2, 3, 0x007ffffe, 0x007fffff, 0x00800000, 0x00800001, 0x3dcccccd, 0x3f7fffff, 0x3f800000, 0x3f800001, 0x3f800002, 0x40000000, 0x7f7ffffe, 0x7f7fffff, 0x7f800000} {
		out = append(out, b, b|1<<31)
	}
	return out
}

func edges64() []uint64 {
	out := []uint64{nan64}
	for _, b := range []uint64{0, 1, 2, 3, 0x000ffffffffffffe, 0x000fffffffffffff, 0x0010000000000000, 0x0010000000000001, 0x3fb999999999999a, 0x3fefffffffffffff, 0x3ff0000000000000, 0x3ff0000000000001, 0x3ff0000010000000, 0x4000000000000000, 0x7feffffffffffffe, 0x7fefffffffffffff, 0x7ff0000000000000} {
		out = append(out, b, b|1<<63)
	}
	return out
}

// sample32 and sample64 are the edges and many other bits of numbers, always the same ones.
func sample32() []uint32 {
	out := edges32()
	r := rand.New(rand.NewSource(1))
	for len(out) < 40000 {
		b := r.Uint32()
		if len(out)%8 == 0 {
			b &= 0x807fffff
		}
		if b&0x7fffffff <= 0x7f800000 {
			out = append(out, b)
		}
	}
	return out
}

func sample64() []uint64 {
	out := edges64()
	for _, b := range sample32() {
		out = append(out, real.Bits64(float64(math.Float32frombits(b))))
	}
	r := rand.New(rand.NewSource(2))
	for len(out) < 100000 {
		b := r.Uint64()
		switch len(out) % 8 {
		case 0:
			b &= 0x800fffffffffffff
		case 1:
			b >>= 12 + r.Intn(52)
		case 2:
			b &= math.MaxUint64 << r.Intn(52)
		}
		if b&0x7fffffffffffffff <= 0x7ff0000000000000 {
			out = append(out, b)
		}
	}
	return out
}

func must64(t *testing.T, s string) float64 {
	t.Helper()
	f, e := real.Parse64(s)
	if e != api.OK {
		t.Fatalf("Parse64(%q): %d", s, e)
	}
	return f
}

// N1.
func TestBitsOfKnownNumbers(t *testing.T) {
	minus := math.Copysign(0, -1)
	for _, c := range []struct {
		f float32
		b uint32
	}{
		{1, 0x3f800000}, {float32(minus), 0x80000000}, {0, 0}, {-1, 0xbf800000}, {0.1, 0x3dcccccd},
		{math.SmallestNonzeroFloat32, 1}, {math.MaxFloat32, 0x7f7fffff}, {-math.MaxFloat32, 0xff7fffff},
		{float32(math.Inf(1)), 0x7f800000}, {float32(math.Inf(-1)), 0xff800000}, {0x1p-126, 0x00800000},
	} {
		if b := real.Bits32(c.f); b != c.b {
			t.Errorf("Bits32(%g): %x, not %x", c.f, b, c.b)
		}
		if f, e := real.From32(c.b); math.Float32bits(f) != math.Float32bits(c.f) || e != api.OK {
			t.Errorf("From32(%x): %g %d", c.b, f, e)
		}
	}
	for _, c := range []struct {
		f float64
		b uint64
	}{
		{0.1, 0x3fb999999999999a}, {minus, 0x8000000000000000}, {0, 0}, {-2, 0xc000000000000000},
		{math.SmallestNonzeroFloat64, 1}, {math.MaxFloat64, 0x7fefffffffffffff}, {-math.MaxFloat64, 0xffefffffffffffff},
		{math.Inf(1), 0x7ff0000000000000}, {math.Inf(-1), 0xfff0000000000000}, {0x1p-1022, 0x0010000000000000},
	} {
		if b := real.Bits64(c.f); b != c.b {
			t.Errorf("Bits64(%g): %x, not %x", c.f, b, c.b)
		}
		if f, e := real.From64(c.b); math.Float64bits(f) != math.Float64bits(c.f) || e != api.OK {
			t.Errorf("From64(%x): %g %d", c.b, f, e)
		}
	}
}

// N1: whatever NaN the language has, its bits are these; other bits of one are refused.
func TestBitsOfNaN(t *testing.T) {
	for _, b := range []uint32{0x7f800001, 0x7fa00000, 0x7fbfffff, 0x7fc00001, 0x7fffffff, 0xff800001, 0xffc00000, 0xffffffff} {
		if got := real.Bits32(math.Float32frombits(b)); got != nan32 {
			t.Errorf("Bits32 of NaN %x: %x", b, got)
		}
		if f, e := real.From32(b); math.Float32bits(f) != 0 || e != api.ErrRealBits {
			t.Errorf("From32(%x): %g %d", b, f, e)
		}
	}
	for _, b := range []uint64{0x7ff0000000000001, 0x7ff4000000000000, 0x7ff7ffffffffffff, 0x7ff8000000000001, 0x7fffffffffffffff, 0xfff0000000000001, 0xfff8000000000000, 0xffffffffffffffff} {
		if got := real.Bits64(math.Float64frombits(b)); got != nan64 {
			t.Errorf("Bits64 of NaN %x: %x", b, got)
		}
		if f, e := real.From64(b); math.Float64bits(f) != 0 || e != api.ErrRealBits {
			t.Errorf("From64(%x): %g %d", b, f, e)
		}
	}
	if f, e := real.From32(nan32); f == f || e != api.OK {
		t.Errorf("From32(%x): %g %d", nan32, f, e)
	}
	if f, e := real.From64(nan64); f == f || e != api.OK {
		t.Errorf("From64(%x): %g %d", nan64, f, e)
	}
}

// N6: From of Bits, Bits of From.
func TestBitsThereAndBack(t *testing.T) {
	for _, b := range sample32() {
		f, e := real.From32(b)
		if e != api.OK || real.Bits32(f) != b {
			t.Fatalf("From32(%x): %g %d, bits %x", b, f, e, real.Bits32(f))
		}
	}
	for _, b := range sample64() {
		f, e := real.From64(b)
		if e != api.OK || real.Bits64(f) != b {
			t.Fatalf("From64(%x): %g %d, bits %x", b, f, e, real.Bits64(f))
		}
	}
}

// N2.
func TestSame(t *testing.T) {
	for i, a := range edges32() {
		for j, b := range edges32() {
			if real.Same32(math.Float32frombits(a), math.Float32frombits(b)) != (i == j) {
				t.Errorf("Same32 of %x, %x", a, b)
			}
		}
	}
	for i, a := range edges64() {
		for j, b := range edges64() {
			if real.Same64(math.Float64frombits(a), math.Float64frombits(b)) != (i == j) {
				t.Errorf("Same64 of %x, %x", a, b)
			}
		}
	}
	if !real.Same32(math.Float32frombits(0xffc00001), math.Float32frombits(nan32)) {
		t.Error("two NaNs of 32 bits")
	}
	if !real.Same64(math.Float64frombits(0xfff8000000000001), math.Float64frombits(nan64)) {
		t.Error("two NaNs of 64 bits")
	}
}

// N3: the chapter's third example, and the edges.
func TestNarrowKnown(t *testing.T) {
	for _, c := range []struct {
		f, s string
		same bool
	}{
		{"0x1.999999999999ap-4", "0x1.99999ap-4", false},
		{"0x1.000001p+0", "0x1p+0", false},
		{"0x1.0000010000001p+0", "0x1.000002p+0", false},
		{"0x1.000003p+0", "0x1.000004p+0", false},
		{"0x1.0000029p+0", "0x1.000002p+0", false},
		{"0x1p+128", "inf", false},
		{"-0x1p+128", "-inf", false},
		{"0x1.ffffffp+127", "inf", false},
		{"-0x1.ffffffp+127", "-inf", false},
		{"0x1.fffffefffffffp+127", "0x1.fffffep+127", false},
		{"-0x1.fffffefffffffp+127", "-0x1.fffffep+127", false},
		{"0x1.fffffep+127", "0x1.fffffep+127", true},
		{"0x1.fffffffffffffp+1023", "inf", false},
		{"0x1p-150", "0x0p+0", false},
		{"-0x1p-150", "-0x0p+0", false},
		{"0x1.0000000000001p-150", "0x1p-149", false},
		{"0x1.8p-149", "0x1p-148", false},
		{"0x1p-149", "0x1p-149", true},
		{"0x1p-1074", "0x0p+0", false},
		{"-0x1p-1074", "-0x0p+0", false},
		{"0x1.ffffffp-127", "0x1p-126", false},
		{"0x0p+0", "0x0p+0", true},
		{"-0x0p+0", "-0x0p+0", true},
		{"nan", "nan", true},
		{"inf", "inf", true},
		{"-inf", "-inf", true},
		{"-0x1.8p+3", "-0x1.8p+3", true},
	} {
		g, same := real.Narrow(must64(t, c.f))
		if real.Print32(g) != c.s || same != c.same {
			t.Errorf("Narrow(%s): %s %v, not %s %v", c.f, real.Print32(g), same, c.s, c.same)
		}
	}
	for _, b := range []uint64{0x7ff0000000000001, 0xfff8000000000000, 0x7fffffffffffffff} {
		if g, same := real.Narrow(math.Float64frombits(b)); math.Float32bits(g) != nan32 || !same {
			t.Errorf("Narrow of NaN %x: %x %v", b, math.Float32bits(g), same)
		}
	}
}

// N3: where the range of 32 bits ends, in both directions, and what is beyond it.
func TestNarrowBeyond(t *testing.T) {
	for _, c := range []struct {
		f    uint64
		want uint32
		same bool
	}{
		{0x47efffffe0000000, 0x7f7fffff, true},
		{0x47efffffe0000001, 0x7f7fffff, false},
		{0x47efffffefffffff, 0x7f7fffff, false},
		{0x47effffff0000000, 0x7f800000, false},
		{0x47effffff0000001, 0x7f800000, false},
		{0x47efffffffffffff, 0x7f800000, false},
		{0x47f0000000000000, 0x7f800000, false},
		{0x47f0000000000001, 0x7f800000, false},
		{0x7fe0000000000000, 0x7f800000, false},
		{0x7fefffffffffffff, 0x7f800000, false},
		{0x7ff0000000000000, 0x7f800000, true},
	} {
		for _, sign := range []uint64{0, 1} {
			f := c.f | sign<<63
			want := c.want | uint32(sign)<<31
			g, same := real.Narrow(math.Float64frombits(f))
			if math.Float32bits(g) != want || same != c.same {
				t.Errorf("Narrow of bits %x: %x %v, not %x %v", f, math.Float32bits(g), same, want, c.same)
			}
		}
	}
}

// N3: between each two neighbours of 32 bits the middle goes to the even one, and what is beside the middle to the nearer one.
func TestNarrowMiddle(t *testing.T) {
	for _, b := range sample32() {
		low := b &^ (1 << 31)
		if low >= 0x7f800000 {
			continue
		}
		below, above := exact(low), exact(low+1)
		middle := below + (above-below)/2
		even := low + low&1
		for _, c := range []struct {
			f    float64
			want uint32
		}{{below, low}, {math.Nextafter(middle, 0), low}, {middle, even}, {math.Nextafter(middle, math.Inf(1)), low + 1}} {
			for _, sign := range []uint32{0, 1} {
				f := math.Copysign(c.f, 1-2*float64(sign))
				want := c.want | sign<<31
				g, same := real.Narrow(f)
				if real.Bits32(g) != want || same != (c.f == below) {
					t.Fatalf("Narrow(%x): %x %v, not %x", f, real.Bits32(g), same, want)
				}
			}
		}
	}
}

// exact is the number that bits of 32 without a sign say, by the chapter's table alone; of the infinite one what the next number would be.
func exact(b uint32) float64 {
	e, f := int(b>>23), float64(b&0x7fffff)
	if e == 0 {
		return math.Ldexp(f, -149)
	}
	return math.Ldexp(1<<23+f, e-150)
}

// N6: Narrow does not fall where f does not.
func TestNarrowDoesNotFall(t *testing.T) {
	check := func(a, b float64) {
		x, _ := real.Narrow(a)
		y, _ := real.Narrow(b)
		if a <= b && x > y {
			t.Fatalf("Narrow(%x) is %x, Narrow(%x) is %x", a, x, b, y)
		}
	}
	all := sample64()
	for i, b := range all {
		a := math.Float64frombits(b)
		check(a, math.Nextafter(a, math.Inf(1)))
		check(math.Nextafter(a, math.Inf(-1)), a)
		c := math.Float64frombits(all[len(all)-1-i])
		check(a, c)
		check(c, a)
	}
}

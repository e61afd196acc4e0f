package real_test

import (
	"math"
	"regexp"
	"strconv"
	"strings"
	"testing"

	"callbox/api"
	"callbox/real"
)

// N4, N5: the chapter's second example, and the edges.
func TestTextsOf64(t *testing.T) {
	for _, c := range []struct {
		f float64
		s string
	}{
		{0.1, "0x1.999999999999ap-4"}, {-2, "-0x1p+1"}, {0, "0x0p+0"}, {math.Copysign(0, -1), "-0x0p+0"},
		{1, "0x1p+0"}, {-1, "-0x1p+0"}, {0.5, "0x1p-1"}, {1.5, "0x1.8p+0"}, {17, "0x1.1p+4"}, {1 << 40, "0x1p+40"},
		{1 + 0x1p-52, "0x1.0000000000001p+0"}, {1 + 0x1p-48, "0x1.000000000001p+0"}, {0x1.fp+10, "0x1.fp+10"},
		{math.MaxFloat64, "0x1.fffffffffffffp+1023"}, {-math.MaxFloat64, "-0x1.fffffffffffffp+1023"},
		{math.SmallestNonzeroFloat64, "0x1p-1074"}, {3 * math.SmallestNonzeroFloat64, "0x1.8p-1073"}, {-math.SmallestNonzeroFloat64, "-0x1p-1074"},
		{0x1p-1022, "0x1p-1022"}, {0x1p-1022 - 0x1p-1074, "0x1.ffffffffffffep-1023"}, {0x1p-1022 + 0x1p-1074, "0x1.0000000000001p-1022"},
		{math.Inf(1), "inf"}, {math.Inf(-1), "-inf"}, {math.NaN(), "nan"}, {math.Float64frombits(0xfff8000000000001), "nan"},
	} {
		if s := real.Print64(c.f); s != c.s {
			t.Errorf("Print64(%g): %s, not %s", c.f, s, c.s)
		}
		if f, e := real.Parse64(c.s); !real.Same64(f, c.f) || e != api.OK {
			t.Errorf("Parse64(%s): %g %d", c.s, f, e)
		}
	}
}

func TestTextsOf32(t *testing.T) {
	for _, c := range []struct {
		f float32
		s string
	}{
		{math.SmallestNonzeroFloat32, "0x1p-149"}, {3 * math.SmallestNonzeroFloat32, "0x1.8p-148"}, {math.MaxFloat32, "0x1.fffffep+127"},
		{0x1p-126, "0x1p-126"}, {0x1p-126 - 0x1p-149, "0x1.fffffcp-127"}, {0.1, "0x1.99999ap-4"}, {-2, "-0x1p+1"}, {1 + 0x1p-23, "0x1.000002p+0"},
		{0, "0x0p+0"}, {float32(math.Copysign(0, -1)), "-0x0p+0"}, {float32(math.Inf(1)), "inf"}, {float32(math.Inf(-1)), "-inf"},
		{float32(math.NaN()), "nan"}, {math.Float32frombits(0xffc00001), "nan"}, {math.Float32frombits(0x7f800001), "nan"},
	} {
		if s := real.Print32(c.f); s != c.s {
			t.Errorf("Print32(%g): %s, not %s", c.f, s, c.s)
		}
		if f, e := real.Parse32(c.s); !real.Same32(f, c.f) || e != api.OK {
			t.Errorf("Parse32(%s): %g %d", c.s, f, e)
		}
	}
}

func refused64(t *testing.T, s string) {
	t.Helper()
	if f, e := real.Parse64(s); math.Float64bits(f) != 0 || e != api.ErrRealForm {
		t.Errorf("Parse64(%q): %g %d", s, f, e)
	}
}

func refused32(t *testing.T, s string) {
	t.Helper()
	if f, e := real.Parse32(s); math.Float32bits(f) != 0 || e != api.ErrRealForm {
		t.Errorf("Parse32(%q): %g %d", s, f, e)
	}
}

// N5: the chapter's fourth example, and other wrong texts.
func TestWrongTexts(t *testing.T) {
	for _, s := range []string{
		"0x1.0p+0", "0x1p0", "0x1p+00", "0X1p+0", "0x2p+0", "0x1.8", "NaN", "+inf", "0x1p+1024", "0x1.8p-1074",
		"", "-", "--0x1p+0", "+0x1p+0", "-nan", "nan ", " nan", "Inf", "-Inf", "--inf", "infinity", "in", "-in", "na",
		"0", "1", "-0", "1.5", "0x", "0x1", "0x1p", "0x1p+", "0x1p-", "0x1p+-1", "0x1p--1", "0x1p++1", "0x1p1", "0x1p 1",
		"0x0", "0x0p+1", "0x0p-0", "0x0p0", "0x0.0p+0", "0x0.8p+0", "0x00p+0", "0x1p-0", "-0x0p-0", "0x01p+0", "0x11p+0", "0x3p+0",
		"0x1.p+0", "0x1.80p+0", "0x1.8p+00", "0x1.8p+01", "0x1.8p-01", "0x1.8P+0", "0x1.A8p+1", "0x1.gp+0", "0x1.8.8p+0", "0x1,8p+0", "0x1.8_8p+0", "0x18p+0",
		"0x1.00000000000001p+0", "0x1.99999999999999p+0", "0x1.fffffffffffff8p+0", "0x1.ffffffffffffffffffffffffp+0",
		"0x1p+1025", "0x1p+9999", "0x1p+10000", "0x1p+18446744073709551616", "0x1p-1075", "0x1p-9999", "0x1p-18446744073709551616",
		"0x1.0000000000001p-1023", "0x1.fffffffffffffp-1023", "0x1.4p-1073", "0x1.8p-1075",
		"0x1p+1 ", " 0x1p+1", "0x1p+1\n", "0x1p+1\x00", "0x1p+1p+1", "0x1pp+1", "0x1.8p+0x1", "0x1p+a", "\xff", "0x1.\xffp+0", "0x1.٣p+0",
		strings.Repeat("f", 100000), "0x1." + strings.Repeat("1", 100000) + "p+0", "0x1p+" + strings.Repeat("1", 100000),
	} {
		refused64(t, s)
		refused32(t, s)
	}
	for _, s := range []string{
		"0x1.000001p+0", "0x1p+128", "-0x1p+128", "0x1.ffffffp+127", "0x1.fffffefffffffp+127", "0x1p-150", "-0x1p-150", "0x1.8p-149", "0x1.fffffep-127", "0x1.999999999999ap-4", "0x1p+1023", "0x1p-1074",
	} {
		if _, e := real.Parse64(s); e != api.OK {
			t.Errorf("Parse64(%q): %d", s, e)
		}
		refused32(t, s)
	}
}

// oracle is the text by the library's own form, whose exponent has two digits at the least.
func oracle(f float64) string {
	switch {
	case f != f:
		return "nan"
	case math.IsInf(f, 0):
		return strings.TrimPrefix(strings.ToLower(strconv.FormatFloat(f, 'x', -1, 64)), "+")
	}
	s := strconv.FormatFloat(f, 'x', -1, 64)
	if n := len(s); s[n-2] == '0' && (s[n-3] == '+' || s[n-3] == '-') {
		s = s[:n-2] + s[n-1:]
	}
	return s
}

// N4 to N6: Parse of Print, also of the wider kind.
func TestTextsThereAndBack(t *testing.T) {
	for _, b := range sample64() {
		f := math.Float64frombits(b)
		s := real.Print64(f)
		if s != oracle(f) {
			t.Fatalf("Print64(%x): %s, not %s", b, s, oracle(f))
		}
		if g, e := real.Parse64(s); e != api.OK || !real.Same64(f, g) {
			t.Fatalf("Parse64(%s): %g %d", s, g, e)
		}
	}
	for _, b := range sample32() {
		f := math.Float32frombits(b)
		s := real.Print32(f)
		if s != oracle(float64(f)) {
			t.Fatalf("Print32(%x): %s, not %s", b, s, oracle(float64(f)))
		}
		if g, e := real.Parse32(s); e != api.OK || !real.Same32(f, g) {
			t.Fatalf("Parse32(%s): %g %d", s, g, e)
		}
	}
}

var textForm = regexp.MustCompile(`^(nan|-?inf|-?0x0p\+0|-?0x1(\.[0-9a-f]{0,12}[1-9a-f])?p(\+0|[+-][1-9][0-9]*))$`)

// checkText holds what Parse answers against the text's form and the library's reading of it.
func checkText(t *testing.T, s string) {
	t.Helper()
	want, err := strconv.ParseFloat(s, 64)
	takes := textForm.MatchString(s) && err == nil && oracle(want) == s
	wide, e := real.Parse64(s)
	switch {
	case takes && (e != api.OK || !real.Same64(wide, want) || real.Print64(wide) != s):
		t.Fatalf("Parse64(%q): %g %d, not %g", s, wide, e, want)
	case !takes && (e != api.ErrRealForm || math.Float64bits(wide) != 0):
		t.Fatalf("Parse64(%q): %g %d, to be refused", s, wide, e)
	}
	narrow, e := real.Parse32(s)
	if nearest, same := real.Narrow(wide); takes && same {
		if e != api.OK || !real.Same32(narrow, nearest) || real.Print32(narrow) != s {
			t.Fatalf("Parse32(%q): %g %d, not %g", s, narrow, e, nearest)
		}
	} else if e != api.ErrRealForm || math.Float32bits(narrow) != 0 {
		t.Fatalf("Parse32(%q): %g %d, to be refused", s, narrow, e)
	}
}

// N5, N6: all texts that are one byte away from the text of an edge.
func TestTextsNearby(t *testing.T) {
	const bytes = "0189afgAFpPxX.+-_ inxe\x00\xff"
	for _, b := range edges64() {
		s := real.Print64(math.Float64frombits(b))
		checkText(t, s)
		for i := range len(s) + 1 {
			for j := range len(bytes) {
				checkText(t, s[:i]+bytes[j:j+1]+s[i:])
				if i < len(s) {
					checkText(t, s[:i]+bytes[j:j+1]+s[i+1:])
				}
			}
			if i < len(s) {
				checkText(t, s[:i]+s[i+1:])
			}
		}
	}
}

// N5: each exponent, with few and with all digits.
func TestTextsOfEachPower(t *testing.T) {
	for power := -1100; power <= 1100; power++ {
		for _, front := range []string{"0x1", "0x1.8", "-0x1.4", "0x1.000002", "-0x1.0000000000001", "0x1.fffffffffffff", "0x1.fffffe"} {
			sign := "+"
			if power < 0 {
				sign = ""
			}
			checkText(t, front+"p"+sign+strconv.Itoa(power))
		}
	}
}

func FuzzParse(f *testing.F) {
	for _, b := range edges64() {
		f.Add(real.Print64(math.Float64frombits(b)))
	}
	f.Add("0x1.0p+0")
	f.Fuzz(checkText)
}

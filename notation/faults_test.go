package notation_test

import (
	"fmt"
	"math"
	"slices"
	"strings"
	"testing"

	"callbox/api"
	"callbox/notation"
	"callbox/value"
)

const (
	form = api.ErrNotationForm
	rang = api.ErrNotationRange
)

type wrong struct {
	name, s string
	e       api.Errno
	at      int
}

func wantAllWrong(t *testing.T, all []wrong) {
	t.Helper()
	x := compiled(t, source)
	for _, c := range all {
		at := place(t, x, c.name)
		wantWrong(t, x, at, c.s, c.e, c.at)
		if _, e, n := modelParse(x, at, c.s); e != c.e || n != c.at {
			t.Errorf("%s %s: the model tells %d at %d", c.name, short(c.s), e, n)
		}
	}
}

// TestWholeNumbers is V2: what is no whole number, and what none of that kind.
func TestWholeNumbers(t *testing.T) {
	for _, c := range []struct {
		name   string
		signed bool
		beyond []string
	}{
		{"int", true, []string{"2147483648", "-2147483649", "4294967296", "4294967297", "-4294967296", "9223372036854775807", "9223372036854775808", "18446744073709551616"}},
		{"uint", false, []string{"4294967296", "4294967297", "9223372036854775808", "18446744073709551615", "18446744073709551616"}},
		{"hyper", true, []string{"9223372036854775808", "-9223372036854775809", "18446744073709551615", "18446744073709551616", "-18446744073709551616", "18446744073709551617"}},
		{"uhyper", false, []string{"18446744073709551616", "18446744073709551617", "36893488147419103232", "99999999999999999999"}},
	} {
		var all []wrong
		for _, s := range c.beyond {
			all = append(all, wrong{c.name, s, rang, 0})
		}
		for _, s := range []string{strings.Repeat("9", 200), "1" + strings.Repeat("0", 7999)} {
			all = append(all, wrong{c.name, s, rang, 0})
			if c.signed {
				all = append(all, wrong{c.name, "-" + s[:len(s)-1], rang, 0})
			}
		}
		for _, s := range []string{"", "-", "--1", "-0", "-00", "00", "01", "-01", "007", "0" + strings.Repeat("9", 30), "+1", "+0", "+", "1-", "1-1", "1+1", "1.", "1.0", ".1", "1e3", "0x1", "0x0", "0b1", "0o7", "1_0", "_1", "a", "1a", "99999999999999999999999a", "none", "nan", "inf", "void", "TRUE", "A"} {
			all = append(all, wrong{c.name, s, form, 0})
		}
		for _, s := range []string{"-1", "-2147483648", "-9223372036854775808", "-99999999999999999999999"} {
			if !c.signed {
				all = append(all, wrong{c.name, s, form, 0})
			}
		}
		// What stands behind an atom is told only if the atom is right.
		for _, s := range []string{"1 ", "1,", "1]", "1=", "1\x00", "1\x80", "1\u0661", "1\xff", "1*", "1:", "1\"", "1#", "1\n", "1/2", "1'0"} {
			all = append(all, wrong{c.name, s, form, 1})
		}
		for _, s := range []string{" 1", "\t1", "\u0661", "\uff11", "*1", "#1", "(1)", "[1]", "\x00", "\xff1", "01 ", "-0,", "a ]", "- 1"} {
			all = append(all, wrong{c.name, s, form, 0})
		}
		all = append(all, wrong{c.name, c.beyond[0] + " ", rang, 0}, wrong{c.name, c.beyond[0] + "]", rang, 0})
		wantAllWrong(t, all)
	}
}

// TestBounds is V1 and V2: just the numbers from the least to the greatest of each kind.
func TestBounds(t *testing.T) {
	x := compiled(t, source)
	for _, c := range []struct {
		at        int
		low, high int
		lows      string
		highs     string
	}{
		{api.Int, math.MinInt32, math.MaxInt32, "-2147483648", "2147483647"},
		{api.Uint, 0, math.MaxUint32, "0", "4294967295"},
		{api.Hyper, math.MinInt64, math.MaxInt64, "-9223372036854775808", "9223372036854775807"},
		{api.Uhyper, 0, -1, "0", "18446744073709551615"},
	} {
		wantText(t, x, c.at, num(c.at, c.low), c.lows)
		wantText(t, x, c.at, num(c.at, c.high), c.highs)
		if c.at < api.Hyper {
			wantNone(t, x, c.at, num(c.at, c.low-1), api.ErrValueType)
			wantNone(t, x, c.at, num(c.at, c.high+1), api.ErrValueType)
		}
	}
	// Numbers of 64 bits below 0 stand for themselves and 2^64.
	for i := range 64 {
		n := -1 << i
		wantText(t, x, api.Uhyper, num(api.Uhyper, n), fmt.Sprint(uint64(n)))
		wantText(t, x, api.Hyper, num(api.Hyper, n), fmt.Sprint(n))
	}
}

// TestOtherAtoms is V2 of words and of numbers with a point.
func TestOtherAtoms(t *testing.T) {
	wantAllWrong(t, []wrong{
		{"void", "", form, 0}, {"void", "Void", form, 0}, {"void", "voi", form, 0}, {"void", "voids", form, 0}, {"void", "none", form, 0}, {"void", "0", form, 0}, {"void", " void", form, 0},
		{"void", "void ", form, 4}, {"void", "void,", form, 4}, {"void", "void\x00", form, 4}, {"void", "void-", form, 0}, {"void", "void.", form, 0},
		{"bool", "", form, 0}, {"bool", "0", form, 0}, {"bool", "1", form, 0}, {"bool", "2", form, 0}, {"bool", "true", form, 0}, {"bool", "True", form, 0}, {"bool", "FALS", form, 0}, {"bool", "FALSE0", form, 0}, {"bool", "TRUEFALSE", form, 0}, {"bool", "TRU", form, 0}, {"bool", "99999999999999999999", form, 0},
		{"bool", "TRUE TRUE", form, 4}, {"bool", "FALSE;", form, 5}, {"bool", "FALSE\xff", form, 5},
		{"e", "", form, 0}, {"e", "a", form, 0}, {"e", "AAA", form, 0}, {"e", "D", form, 0}, {"e", "5", form, 0}, {"e", "-1", form, 0}, {"e", "2147483648", form, 0}, {"e", "point", form, 0}, {"e", "TRUE", form, 0}, {"e", "a_", form, 0}, {"e", "A_1", form, 0}, {"e", "A-", form, 0}, {"e", "A+1", form, 0}, {"e", "B.", form, 0},
		{"e", "A A", form, 1}, {"e", "AA:", form, 2}, {"e", "none*", form, 4}, {"e", "A\u00e4", form, 1}, {"e", "\u00e4", form, 0},
		{"float", "", form, 0}, {"float", "0", form, 0}, {"float", "1", form, 0}, {"float", "-0", form, 0}, {"float", "1.5", form, 0}, {"float", "1e3", form, 0}, {"float", "0x0", form, 0}, {"float", "0x1", form, 0}, {"float", "0x1p0", form, 0}, {"float", "0x1.0p+0", form, 0}, {"float", "0x2p+0", form, 0}, {"float", "0x1p+00", form, 0}, {"float", "0X1p+0", form, 0}, {"float", "+0x1p+0", form, 0}, {"float", "0x1.8", form, 0},
		{"float", "NaN", form, 0}, {"float", "-nan", form, 0}, {"float", "+inf", form, 0}, {"float", "Inf", form, 0}, {"float", "infinity", form, 0}, {"float", "nann", form, 0}, {"float", "0x1.000001p+0", form, 0}, {"float", "0x1p+128", form, 0}, {"float", "0x1p-150", form, 0}, {"float", "-0x0p-0", form, 0}, {"float", "0x0p+1", form, 0},
		{"float", "nan ", form, 3}, {"float", "inf,", form, 3}, {"float", "0x1p+0)", form, 6},
		{"double", "", form, 0}, {"double", "0", form, 0}, {"double", "18446744073709551616", form, 0}, {"double", "0x1.0p+0", form, 0}, {"double", "0x1p+1024", form, 0}, {"double", "0x1.8p-1074", form, 0}, {"double", "0x1.00000000000001p+0", form, 0}, {"double", "0x1.FP+0", form, 0}, {"double", "0x1p+0+1", form, 0}, {"double", "--0x1p+0", form, 0},
		{"double", "-inf\n", form, 4}, {"double", "0x1.8p+0\"", form, 8},
	})
	x := compiled(t, source)
	// What only the wide kind has.
	for _, s := range []string{"0x1.000001p+0", "0x1p+128", "0x1p-150"} {
		if _, e, n := notation.Parse(x, api.Double, s); e != api.OK || n != 0 {
			t.Errorf("%s: %d at %d", s, e, n)
		}
	}
}

// TestOpaques is V2.
func TestOpaques(t *testing.T) {
	wantAllWrong(t, []wrong{
		{"two", "", form, 0}, {"two", "0000", form, 0}, {"two", `"ab"`, form, 0}, {"two", " #0000", form, 0}, {"two", "*#0000", form, 0}, {"two", "##0000", rang, 0},
		{"two", "#", rang, 0}, {"two", "#0", form, 0}, {"two", "#00", rang, 0}, {"two", "#000", form, 0}, {"two", "#00000", form, 0}, {"two", "#000000", rang, 0}, {"two", "#" + strings.Repeat("0", 7999), form, 0}, {"two", "#" + strings.Repeat("0", 7998), rang, 0},
		{"two", "#0000 ", form, 5}, {"two", "#0000g", form, 5}, {"two", "#0000A", form, 5}, {"two", "#0000#", form, 5}, {"two", "#0000\xff", form, 5}, {"two", "#0000_", form, 5},
		{"two", "#00 00", rang, 0}, {"two", "#000 0", form, 0}, {"two", "#00FF", rang, 0}, {"two", "#00fF", form, 0}, {"two", "#x0000", rang, 0}, {"two", "#0x00", form, 0}, {"two", "#-000", rang, 0},
		// Odd is told ahead of too many and too few, and both ahead of what is behind.
		{"two", "#0000000 ", form, 0}, {"two", "#000000 ", rang, 0}, {"two", "#0 ", form, 0}, {"two", "# ", rang, 0},
		{"some", "", form, 0}, {"some", "#0", form, 0}, {"some", "#00000", form, 0}, {"some", "#00000000", rang, 0}, {"some", "#000000000", form, 0}, {"some", "#0000000000", rang, 0},
		{"some", "#ABCDEF", form, 1}, {"some", "#00ABCD", form, 3}, {"some", "#000000.", form, 7}, {"some", "#,", form, 1}, {"some", "#0,", form, 0}, {"some", "#00000000,", rang, 0}, {"some", "none", form, 0},
		{"no_bytes", "#0", form, 0}, {"no_bytes", "#00", rang, 0}, {"no_bytes", "#000", form, 0}, {"no_bytes", "#,", form, 1}, {"no_bytes", "", form, 0},
		{"bytes", "#0", form, 0}, {"bytes", "#" + strings.Repeat("0", 7999), form, 0}, {"bytes", "#" + strings.Repeat("0", 7998), api.ErrValueLong, 0}, {"bytes", "#\u0661", form, 1},
	})
}

// TestStrings is V2.
func TestStrings(t *testing.T) {
	wantAllWrong(t, []wrong{
		{"name", "", form, 0}, {"name", "a", form, 0}, {"name", "'a'", form, 0}, {"name", "`a`", form, 0}, {"name", ` "a"`, form, 0}, {"name", `\"a"`, form, 0}, {"name", "#61", form, 0},
		{"name", `"`, form, 1}, {"name", `"a`, form, 2}, {"name", `"abcd`, form, 5}, {"name", `"a\"`, form, 4}, {"name", `"a\\`, form, 4}, {"name", `"\x00`, form, 5},
		{"name", `""a`, form, 2}, {"name", `"""`, form, 2}, {"name", `"a" `, form, 3}, {"name", `"a"b"`, form, 3}, {"name", "\"a\"\x00", form, 3},
		{"name", "\"\x00\"", form, 1}, {"name", "\"a\x1f\"", form, 2}, {"name", "\"a\n\"", form, 2}, {"name", "\"ab\x7f\"", form, 3}, {"name", "\"\x80\"", form, 1}, {"name", "\"abc\xff\"", form, 4}, {"name", "\"\u00e4\"", form, 1}, {"name", "\"a\ufffd\"", form, 2},
		// A \ with what is none behind it, or with nothing.
		{"name", `"\`, form, 1}, {"name", `"a\`, form, 2}, {"name", `"\n"`, form, 1}, {"name", `"\a"`, form, 1}, {"name", `"\'"`, form, 1}, {"name", `"\0"`, form, 1}, {"name", `"\ "`, form, 1}, {"name", `"\u0001"`, form, 1}, {"name", "\"\\\x00\"", form, 1}, {"name", "\"\\\xff\"", form, 1},
		{"name", `"\x`, form, 1}, {"name", `"\x"`, form, 1}, {"name", `"\x0`, form, 1}, {"name", `"\x0"`, form, 1}, {"name", `"\x0"""`, form, 1}, {"name", `"\xg0"`, form, 1}, {"name", `"\x0g"`, form, 1}, {"name", `"\x1F"`, form, 1}, {"name", `"\xFF"`, form, 1}, {"name", `"\xfF"`, form, 1}, {"name", `"\x-1"`, form, 1}, {"name", `"\X00"`, form, 1}, {"name", `"\x 0"`, form, 1}, {"name", "\"\\x\xff\xff\"", form, 1}, {"name", "\"\\x0\x00\"", form, 1},
		{"name", `"\x20"`, form, 1}, {"name", `"\x22"`, form, 1}, {"name", `"\x41"`, form, 1}, {"name", `"\x5c"`, form, 1}, {"name", `"\x7e"`, form, 1}, {"name", `"a\x20"`, form, 2}, {"name", `"\\\x30"`, form, 3}, {"name", `"\x00\x30"`, form, 5},
		// Of \\" the " ends the string; of \\\" it does not.
		{"name", `"\\"x"`, form, 4}, {"name", `"\\\"`, form, 5}, {"name", `"\"`, form, 3},
		// Too many bytes: as many as are said, not as many as say them.
		{"name", `"abcde"`, rang, 0}, {"name", `"\x00\x00\x00\x00\x00"`, rang, 0}, {"name", `"\"\"\"\"\""`, rang, 0}, {"name", `"abcd\\"`, rang, 0}, {"name", `"` + strings.Repeat("a", 7998) + `"`, rang, 0},
		// What is no text is told ahead of that, and that ahead of what is behind.
		{"name", `"abcde`, form, 6}, {"name", `"abcde\q"`, form, 6}, {"name", "\"abcde\x00\"", form, 6}, {"name", `"abcde\x41"`, form, 6}, {"name", `"abcde" `, rang, 0}, {"name", `"abcde""`, rang, 0}, {"name", `"` + strings.Repeat("a", 7999), form, 8000},
		{"empty", `"a"`, rang, 0}, {"empty", `"\x00"`, rang, 0}, {"empty", `"`, form, 1}, {"empty", `"a`, form, 2}, {"empty", `""""`, form, 2},
		{"chars", `"` + strings.Repeat("a", 997) + `"`, api.ErrValueLong, 0}, {"chars", `"` + strings.Repeat(`\x00`, 997) + `"`, api.ErrValueLong, 0}, {"chars", `"` + strings.Repeat("a", 997), form, 998},
	})
}

// TestElements is V2 of arrays and lists.
func TestElements(t *testing.T) {
	wantAllWrong(t, []wrong{
		{"three", "", form, 0}, {"three", "1,2,3", form, 0}, {"three", "(1,2,3)", form, 0}, {"three", " [1,2,3]", form, 0}, {"three", "[", form, 1},
		{"three", "[]", rang, 0}, {"three", "[1]", rang, 0}, {"three", "[1,2]", rang, 0}, {"three", "[1,2,3,4]", rang, 0}, {"three", "[1,2,3,4,5]", rang, 0},
		{"three", "[1", form, 2}, {"three", "[1,", form, 3}, {"three", "[1,2,3", form, 6}, {"three", "[1,2,3,", form, 7}, {"three", "[1,2,3,4", form, 8},
		{"three", "[1,2,3] ", form, 7}, {"three", "[1,2,3]]", form, 7}, {"three", "[1,2,3],", form, 7},
		{"three", "[ 1,2,3]", form, 1}, {"three", "[1 ,2,3]", form, 2}, {"three", "[1, 2,3]", form, 3}, {"three", "[1,2,3 ]", form, 6}, {"three", "[ ]", form, 1},
		{"three", "[,1,2]", form, 1}, {"three", "[1,,2]", form, 3}, {"three", "[1,2,3,]", form, 7}, {"three", "[,]", form, 1}, {"three", "[1,]", form, 3}, {"three", "[1;2;3]", form, 2}, {"three", "[1}", form, 2}, {"three", "[1)", form, 2}, {"three", "[1*]", form, 2}, {"three", "[1\x00]", form, 2}, {"three", "[1\xff]", form, 2},
		// What is wrong first: an element ahead of how many there are; what is told at the ] ahead of what is behind.
		{"three", "[1,2,01,4]", form, 5}, {"three", "[1,2147483648]", rang, 3}, {"three", "[1,2,3,2147483648,01]", rang, 7}, {"three", "[1,2,3,4;", form, 8}, {"three", "[1] ", rang, 0}, {"three", "[1]]", rang, 0}, {"three", "[] ", rang, 0}, {"three", "[1,2,3,4]x", rang, 0},
		{"pair", "[A,B,C]", rang, 0}, {"pair", "[A,B,C,D]", form, 7}, {"pair", "[A,B", form, 4}, {"pair", "[A B]", form, 2}, {"pair", "[A,]", form, 3}, {"pair", "[5]", form, 1}, {"pair", "[AA,b]", form, 4}, {"pair", "[] ", form, 2}, {"pair", "[", form, 1}, {"pair", "]", form, 0}, {"pair", "none", form, 0}, {"pair", "[A,B] ", form, 5}, {"pair", "[A,B,C] ", rang, 0},
		{"no_ints", "[0]", rang, 0}, {"no_ints", "[", form, 1}, {"no_ints", "[,]", form, 1}, {"no_ints", "[0", form, 2}, {"no_ints", "[x]", form, 1}, {"no_ints", "[]]", form, 2},
		{"points", "[{x=1,y=2},{x=1,y=2},{x=1,y=2},{x=1,y=2}]", rang, 0}, {"points", "[{x=1,y=2},]", form, 11}, {"points", "[{x=1,y=2};]", form, 10}, {"points", "[{x=1,y=2}", form, 10}, {"points", "[{x=1,y=2},{x=1}]", form, 15},
		// Lists within lists.
		{"rows", `[["a","b"],["c"]]`, rang, 11}, {"rows", `[["a","b"],["c","d"],["e","f"]]`, rang, 0}, {"rows", `[["a","b"],["c","d"],["e"]]`, rang, 21}, {"rows", `[["abc","b"],["c"]]`, rang, 2}, {"rows", `[["a","b"],["c","def"],[`, rang, 16}, {"rows", `[[],[]]`, rang, 1}, {"rows", `["a"]`, form, 1}, {"rows", `[["a","b"]`, form, 10}, {"rows", `[["a","b"]]]`, form, 11}, {"rows", `[["a","b]]`, form, 10},
		{"ints", "[" + strings.Repeat("1,", 3998) + "1]", api.ErrValueLong, 0}, {"ints", "[" + strings.Repeat("1,", 3998) + "1,", form, 7999}, {"ints", strings.Repeat("[", 8000), form, 1},
	})
}

// TestMaybes is V2.
func TestMaybes(t *testing.T) {
	wantAllWrong(t, []wrong{
		{"perhaps", "", form, 0}, {"perhaps", "7", form, 0}, {"perhaps", "non", form, 0}, {"perhaps", "None", form, 0}, {"perhaps", "nones", form, 0}, {"perhaps", "none1", form, 0}, {"perhaps", "null", form, 0}, {"perhaps", "void", form, 0}, {"perhaps", " none", form, 0}, {"perhaps", "[7]", form, 0}, {"perhaps", "none-", form, 0}, {"perhaps", "&7", form, 0},
		{"perhaps", "none ", form, 4}, {"perhaps", "none*7", form, 4}, {"perhaps", "none,", form, 4}, {"perhaps", "none\x80", form, 4},
		{"perhaps", "*", form, 1}, {"perhaps", "* 7", form, 1}, {"perhaps", "**7", form, 1}, {"perhaps", "*none", form, 1}, {"perhaps", "*07", form, 1}, {"perhaps", "*2147483648", rang, 1}, {"perhaps", "*7 ", form, 2}, {"perhaps", "*7*", form, 2},
		{"twice", "*", form, 1}, {"twice", "*7", form, 1}, {"twice", "**", form, 2}, {"twice", "***7", form, 2}, {"twice", "**none", form, 2}, {"twice", "*None", form, 1}, {"twice", "**2147483648", rang, 2}, {"twice", "7", form, 0},
		{"member", "A", form, 0}, {"member", "*D", form, 1}, {"member", "**none", form, 1}, {"member", "*none*", form, 5},
	})
}

// TestStructs is V2: byte by byte what stands there.
func TestStructs(t *testing.T) {
	wantAllWrong(t, []wrong{
		{"point", "", form, 0}, {"point", "x=1,y=2", form, 0}, {"point", "(x=1,y=2)", form, 0}, {"point", "[1,2]", form, 0}, {"point", " {x=1,y=2}", form, 0}, {"point", "{}", form, 1}, {"point", "{ x=1,y=2}", form, 1}, {"point", "{1,2}", form, 1},
		{"point", "{x", form, 2}, {"point", "{x=", form, 3}, {"point", "{x=1", form, 4}, {"point", "{x=1,", form, 5}, {"point", "{x=1,y", form, 6}, {"point", "{x=1,y=", form, 7}, {"point", "{x=1,y=2", form, 8}, {"point", "{", form, 1},
		{"point", "{x=1,y=2}}", form, 9}, {"point", "{x=1,y=2}\x00", form, 9}, {"point", "{x=1,y=2 }", form, 8}, {"point", "{x=1,y=2,}", form, 8}, {"point", "{x=1,y=2,z=3}", form, 8}, {"point", "{x=1,y=2)", form, 8},
		{"point", "{x =1,y=2}", form, 2}, {"point", "{x= 1,y=2}", form, 3}, {"point", "{x=1 ,y=2}", form, 4}, {"point", "{x=1, y=2}", form, 5}, {"point", "{x=1,y =2}", form, 6}, {"point", "{x:1,y:2}", form, 2}, {"point", "{x=1;y=2}", form, 4}, {"point", "{x=1}", form, 4}, {"point", "{x=1,,y=2}", form, 5},
		{"point", "{y=2,x=1}", form, 1}, {"point", "{x=1,x=1}", form, 5}, {"point", "{X=1,y=2}", form, 1}, {"point", "{xx=1,y=2}", form, 2}, {"point", "{x=1,yy=2}", form, 6}, {"point", "{=1,y=2}", form, 1},
		{"point", "{x=a,y=b}", form, 3}, {"point", "{x=1,y=18446744073709551616}", rang, 7}, {"point", "{x=-2147483649,y=-1}", rang, 3}, {"point", "{x=-2147483648,y=-1}", form, 17}, {"point", "{x=1,y=2147483648,", form, 17},
		{"alike", "{f=1,f=2,f1=3}", form, 6}, {"alike", "{ff=1,ff=2,f1=3}", form, 2}, {"alike", "{f=1,f1=2,ff=3}", form, 6}, {"alike", "{f=1,ff=2,ff=3}", form, 11}, {"alike", "{f=1,ff=2,f2=3}", form, 11}, {"alike", "{f=1,ff=2,f=3}", form, 11}, {"alike", "{f=1,ff=2,f1=3,}", form, 14}, {"alike", "{f=1,ff=2}", form, 9},
		// The first that is wrong, from the left.
		{"all", "{f=0,d=0,o=#0,k=5,b=1,s=1}", form, 3}, {"all", "{f=nan,d=0,o=#0,k=5,b=1,s=1}", form, 9}, {"all", "{f=nan,d=nan,o=#00,k=5,b=1,s=1}", rang, 15}, {"all", "{f=nan,d=nan,o=#0000,k=5,b=1,s=1}", form, 23}, {"all", "{f=nan,d=nan,o=#0000,k=A,b=1,s=1}", form, 27}, {"all", "{f=nan,d=nan,o=#0000,k=A,b=TRUE,s=1}", form, 34}, {"all", `{f=nan,d=nan,o=#0000,k=A,b=TRUE,s="12345"}`, rang, 34}, {"all", `{f=nan,d=nan,o=#0000,k=A,b=TRUE,s="1234"`, form, 40},
		{"cell", "{n=1,next=*{n=2,next=*{n=3}}}", form, 26}, {"cell", "{n=1,next=*{n=2,next=none}", form, 26}, {"cell", "{n=1,next=*{n=2,next=none}}}", form, 27}, {"cell", "{n=1,next={n=2,next=none}}", form, 10},
		{"nest", "{kids=[{kids=[]},{kids=[}]}", form, 24}, {"nest", "{kids={}}", form, 6}, {"nest", "{kids=[{}]}", form, 8},
	})
}

// TestUnions is V2.
func TestUnions(t *testing.T) {
	wantAllWrong(t, []wrong{
		{"u", "", form, 0}, {"u", "FALSE", form, 0}, {"u", "{FALSE}", form, 0}, {"u", "(", form, 1}, {"u", "()", form, 1}, {"u", "(0)", form, 1}, {"u", "(false)", form, 1}, {"u", "( FALSE)", form, 1}, {"u", "(FALSE", form, 6}, {"u", "(FALSE )", form, 6}, {"u", "(FALSE))", form, 7}, {"u", "(FALSE) ", form, 7}, {"u", "(FALSE:)", form, 6}, {"u", "(FALSE:void)", form, 6}, {"u", "(FALSE:p={x=0,y=0})", form, 6},
		{"u", "(TRUE", form, 5}, {"u", "(TRUE)", form, 5}, {"u", "(TRUE:", form, 6}, {"u", "(TRUE:q={x=0,y=0})", form, 6}, {"u", "(TRUE:pp={x=0,y=0})", form, 7}, {"u", "(TRUE:p", form, 7}, {"u", "(TRUE:p:{x=0,y=0})", form, 7}, {"u", "(TRUE:p=", form, 8}, {"u", "(TRUE:p={x=0,y=0}", form, 17}, {"u", "(TRUE:p={x=0,y=0}}", form, 17}, {"u", "(TRUE:p={x=0,y=0},)", form, 17}, {"u", "(TRUE:p=void)", form, 8}, {"u", "(TRUE={x=0,y=0})", form, 5}, {"u", "(TRUE :p={x=0,y=0})", form, 5}, {"u", "(TRUE: p={x=0,y=0})", form, 6}, {"u", "(TRUE:p= {x=0,y=0})", form, 8},
		// No arm is for it.
		{"byint", "(0)", rang, 1}, {"byint", "(0:a=1)", rang, 1}, {"byint", "(1:a=1)", rang, 1}, {"byint", "(-7:a=1)", rang, 1}, {"byint", "(2147483647:a=1)", rang, 1}, {"byint", "(0", rang, 1}, {"byint", "(0 ", rang, 1}, {"byint", "(0}x", rang, 1},
		{"byint", "(2147483648:a=1)", rang, 1}, {"byint", "(-2147483649)", rang, 1}, {"byint", "(07:a=1)", form, 1}, {"byint", "(+7:a=1)", form, 1}, {"byint", "(-0)", form, 1}, {"byint", "(7a=1)", form, 1}, {"byint", "(7=1)", form, 2}, {"byint", "(7:s=1)", form, 3}, {"byint", "(2:a=1)", form, 3}, {"byint", "(7:a=01)", form, 5}, {"byint", "(7:a=2147483648)", rang, 5}, {"byint", "(-1)", form, 3}, {"byint", "(7:a=1:a=1)", form, 6}, {"byint", `(2:s="a)`, form, 8},
		{"byword", "(-1:h=1)", form, 1}, {"byword", "(4294967296:h=1)", rang, 1}, {"byword", "(18446744073709551616)", rang, 1}, {"byword", "(0:b=TRUE)", form, 2}, {"byword", "(1)", form, 2}, {"byword", "(1:h=1)", form, 3}, {"byword", "(4294967295:b=TRUE)", form, 12}, {"byword", "(1:b=1)", form, 5},
		{"byenum", "(5)", form, 1}, {"byenum", "(D)", form, 1}, {"byenum", "(a)", form, 1}, {"byenum", "(A:f=nan)", form, 2}, {"byenum", "(AA)", form, 3}, {"byenum", "(B:f=1)", form, 5}, {"byenum", "(B:f=nan", form, 8},
		{"bymember", "(C)", rang, 1}, {"bymember", "(nan:aa=1)", rang, 1}, {"bymember", "(none)", rang, 1}, {"bymember", "(a_1 ", rang, 1}, {"bymember", "(D)", form, 1}, {"bymember", "(A:aaa=1)", form, 5}, {"bymember", "(AA:aa=1)", form, 6}, {"bymember", "(A)", form, 2}, {"bymember", "(B:aa=1)", form, 2}, {"bymember", "(0)", form, 1},
		{"bytrue", "(FALSE)", rang, 1}, {"bytrue", "(FALSE:a=1)", rang, 1}, {"bytrue", "(0)", form, 1}, {"bytrue", "(TRUE)", form, 5},
		{"mix", "{k=B,u=(0:a=1),n=01}", rang, 8}, {"mix", "{k=D,u=(0:a=1),n=01}", form, 3}, {"mix", "{k=B,u=(7:a=1),n=01}", form, 17}, {"mix", "{k=B,u=7:a=1,n=1}", form, 7},
		{"shapes", "[(FALSE),(TRUE)]", form, 14}, {"shapes", "[(FALSE)(FALSE)]", form, 8}, {"shapes", "[(FALSE]", form, 7},
	})
}

// TestCutAndLonger is V2: of each sample's text, with less and with more.
func TestCutAndLonger(t *testing.T) {
	x := compiled(t, source)
	for _, c := range samples {
		at := place(t, x, c.name)
		for n := range len(c.want) {
			checkText(t, x, at, c.want[:n])
			checkText(t, x, at, c.want[:n]+" ")
			checkText(t, x, at, c.want[:n]+" "+c.want[n:])
			// A blank may stand in a string alone.
			if _, e, where := notation.Parse(x, at, c.want[:n]+" "+c.want[n:]); !strings.Contains(c.want, `"`) && (e == api.OK || where > n) {
				t.Errorf("%s: with a blank ahead of %d: %d at %d", c.want, n, e, where)
			}
			checkText(t, x, at, c.want[:n]+c.want[n+1:])
			checkText(t, x, at, c.want[:n]+c.want[n:n+1]+c.want[n:])
		}
		for _, more := range []string{" ", "\n", "\x00", "\xff", ",", "]", "}", ")", "\"", "#", "*", "=", ":", "(", "[", "{", "\\", "\u00e4", "/", ";", "'", "@", "`", "~", "!", "$"} {
			wantWrong(t, x, at, c.want+more, form, len(c.want))
			wantWrong(t, x, at, c.want+more+c.want, form, len(c.want))
			if more != "*" && more != "[" && more != "(" && more != "{" && more != "\"" && more != "#" {
				wantWrong(t, x, at, more+c.want, form, 0)
			}
		}
		// What an atom goes on with.
		for _, more := range []string{"a", "Z", "0", "9", "_", ".", "+", "-"} {
			checkText(t, x, at, c.want+more)
			checkText(t, x, at, more+c.want)
		}
	}
}

// TestEachByte: of some samples' texts, with each byte in each place.
func TestEachByte(t *testing.T) {
	x := compiled(t, source)
	for _, name := range []string{"void", "int", "uhyper", "float", "bool", "e", "two", "some", "name", "three", "pair", "row", "twice", "point", "u", "byint", "byword", "bymember", "mix"} {
		at := place(t, x, name)
		i := slices.IndexFunc(samples, func(c sample) bool { return c.name == name && len(c.want) > 3 })
		s := samples[i].want
		for n := range len(s) {
			for b := range 256 {
				checkText(t, x, at, s[:n]+string([]byte{byte(b)})+s[n+1:])
			}
		}
	}
}

// TestNoValues is V1: of values that are none, what layer 6 tells.
func TestNoValues(t *testing.T) {
	x := compiled(t, source)
	withText := func(v api.Value) api.Value { v.Text = "x"; return v }
	one := whole(1)
	for _, c := range []struct {
		name string
		v    api.Value
		want api.Errno
	}{
		{"int", num(api.Uint, 1), api.ErrValueType}, {"int", withText(one), api.ErrValueType}, {"int", whole(1 << 31), api.ErrValueType}, {"void", one, api.ErrValueType}, {"int", nothing, api.ErrValueType},
		{"uint", num(api.Uint, -1), api.ErrValueType}, {"bool", num(api.Bool, 2), api.ErrValueType}, {"bool", num(api.Bool, -1), api.ErrValueType},
		{"float", api.Value{Kind: api.Float, Double: negative}, api.ErrValueType}, {"double", api.Value{Kind: api.Double, Single: 1}, api.ErrValueType},
		{"e", num(api.Enum, 2), api.ErrValueCase}, {"e", num(api.Enum, 1<<31), api.ErrValueType}, {"e", withText(num(api.Enum, 2)), api.ErrValueType},
		{"two", text(api.Fixed, "a"), api.ErrValueType}, {"two", text(api.Fixed, "abc"), api.ErrValueType}, {"some", text(api.Opaque, "abcd"), api.ErrValueType}, {"name", chars("abcde"), api.ErrValueType}, {"name", text(api.Opaque, "a"), api.ErrValueType},
		{"three", items(api.Array, one, one), api.ErrValueType}, {"three", items(api.Array, one, one, one, one), api.ErrValueType}, {"three", items(api.List, one, one, one), api.ErrValueType}, {"pair", items(api.List, num(api.Enum, 5), num(api.Enum, 2)), api.ErrValueCase}, {"no_ints", items(api.List, one), api.ErrValueType},
		{"perhaps", items(api.Maybe, one, one), api.ErrValueType}, {"perhaps", items(api.Maybe, nothing), api.ErrValueType},
		{"point", parts(one), api.ErrValueType}, {"point", parts(one, num(api.Uhyper, 1), one), api.ErrValueType}, {"point", parts(one, one), api.ErrValueType}, {"point", nothing, api.ErrValueType},
		{"u", choice(0, one), api.ErrValueType}, {"u", choice(2, nothing), api.ErrValueType}, {"u", num(api.Union, 0), api.ErrValueType}, {"u", choice(1, nothing), api.ErrValueType},
		{"byint", choice(0, one), api.ErrValueCase}, {"byword", choice(-1, num(api.Bool, 1)), api.ErrValueType}, {"byenum", choice(2, single(1)), api.ErrValueCase}, {"bymember", choice(0, nothing), api.ErrValueCase}, {"bytrue", choice(0, one), api.ErrValueCase},
		{"ints", items(api.List, slices.Repeat([]api.Value{one}, 250)...), api.ErrValueLong}, {"ints", items(api.List, append(slices.Repeat([]api.Value{one}, 250), nothing)...), api.ErrValueType}, {"chars", chars(strings.Repeat("a", 997)), api.ErrValueLong},
		{"mix", parts(num(api.Enum, 2), nothing, one), api.ErrValueCase}, {"mix", parts(nothing, choice(0, one), one), api.ErrValueType},
	} {
		at := place(t, x, c.name)
		if e := value.Fits(x, at, c.v); e != c.want {
			t.Errorf("%s: Fits tells %d", c.name, e)
		}
		wantNone(t, x, at, c.v, c.want)
	}
}

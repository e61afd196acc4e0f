package lex_test

import (
	"slices"
	"strconv"
	"strings"
	"testing"
	"unsafe"

	"callbox/api"
	"callbox/lex"
)

const words = "bool case const default double enum float hyper int opaque program quadruple string struct switch typedef union unsigned version void"

const signs = "{}()[]<>=;:,*"

const (
	letters = "abcdefghijklmnopqrstuvwxyzABCDEFGHIJKLMNOPQRSTUVWXYZ"
	digits  = "0123456789"
	blanks  = " \t\n\r"
)

func name(s string, at int) api.Token { return api.Token{Kind: api.TokenName, Text: s, At: at} }

func word(s string, at int) api.Token { return api.Token{Kind: api.TokenWord, Text: s, At: at} }

func sign(s string, at int) api.Token { return api.Token{Kind: api.TokenSign, Text: s, At: at} }

func number(n, at int) api.Token { return api.Token{Kind: api.TokenNumber, Number: n, At: at} }

func end(at int) api.Token { return api.Token{Kind: api.TokenEnd, At: at} }

// short keeps what a test tells readable.
func short(s string) string {
	if len(s) > 80 {
		return strconv.Quote(s[:80]) + " and so on, " + strconv.Itoa(len(s)) + " bytes"
	}
	return strconv.Quote(s)
}

func wantTokens(t *testing.T, s string, want ...api.Token) {
	t.Helper()
	want = append(want, end(len(s)))
	got, e, at := lex.Scan(s)
	if e != api.OK || at != 0 || !slices.Equal(got, want) {
		t.Errorf("Scan(%s) = %v, %d, %d, not %v", short(s), got, e, at, want)
	}
}

func wantFault(t *testing.T, s string, want api.Errno, place int) {
	t.Helper()
	got, e, at := lex.Scan(s)
	if len(got) != 0 || e != want || at != place {
		t.Errorf("Scan(%s) = %v, %d, %d, not %d, %d", short(s), got, e, at, want, place)
	}
}

func TestExamples(t *testing.T) {
	wantTokens(t, "struct a1 {int x;}; ", word("struct", 0), name("a1", 7), sign("{", 10), word("int", 11), name("x", 15), sign(";", 16), sign("}", 17), sign(";", 18))
	wantTokens(t, "-5", number(-5, 0))
	wantFault(t, "- 5", api.ErrLexByte, 0)
	for _, s := range []string{"-0", "-05", "-0x5", "08", "0x", "0X1", "1a", "4294967296", "-2147483649"} {
		wantFault(t, s, api.ErrLexNumber, 0)
	}
	wantTokens(t, "0xfF", number(255, 0))
	wantTokens(t, "017", number(15, 0))
	wantTokens(t, "a-5", name("a", 0), number(-5, 1))
	wantTokens(t, "a/* */b", name("a", 0), name("b", 6))
	wantFault(t, "a /* b", api.ErrLexComment, 2)
	wantFault(t, "a /*/ b", api.ErrLexComment, 2)
	wantFault(t, "a / b", api.ErrLexByte, 2)
	wantTokens(t, "a_b_", name("a_b_", 0))
	wantFault(t, "_a", api.ErrLexByte, 0)
	wantTokens(t, strings.Repeat("n", 32), name(strings.Repeat("n", 32), 0))
	wantFault(t, strings.Repeat("n", 33), api.ErrLexName, 0)
	wantTokens(t, "")
}

// TestEachByte: what each byte begins, alone and behind a blank.
func TestEachByte(t *testing.T) {
	for c := range 256 {
		b := string([]byte{byte(c)})
		for _, front := range []string{"", " "} {
			s, at := front+b, len(front)
			switch {
			case strings.Contains(blanks, b):
				wantTokens(t, s)
			case strings.Contains(letters, b):
				wantTokens(t, s, name(b, at))
			case strings.Contains(digits, b):
				wantTokens(t, s, number(c-'0', at))
			case strings.Contains(signs, b):
				wantTokens(t, s, sign(b, at))
			default:
				wantFault(t, s, api.ErrLexByte, at)
			}
		}
	}
}

// TestEachByteWithin: which bytes a run goes on with, and what parts it from what comes.
func TestEachByteWithin(t *testing.T) {
	for c := range 256 {
		b := string([]byte{byte(c)})
		switch {
		case strings.Contains(letters+digits+"_", b):
			wantTokens(t, "k"+b+"k", name("k"+b+"k", 0))
		case strings.Contains(blanks, b):
			wantTokens(t, "k"+b+"k", name("k", 0), name("k", 2))
		case strings.Contains(signs, b):
			wantTokens(t, "k"+b+"k", name("k", 0), sign(b, 1), name("k", 2))
		default:
			wantFault(t, "k"+b+"k", api.ErrLexByte, 1)
		}
		if strings.Contains(letters+"_", b) {
			wantFault(t, "k 1"+b, api.ErrLexNumber, 2)
		}
		wantTokens(t, "/*"+b+"*/k", name("k", 5))
	}
}

func TestWords(t *testing.T) {
	all := strings.Fields(words)
	if len(all) != 20 {
		t.Fatalf("%d words", len(all))
	}
	for _, w := range all {
		wantTokens(t, w, word(w, 0))
		wantTokens(t, w+w, name(w+w, 0))
		if !lex.IsWord(w) || lex.IsName(w) {
			t.Errorf("%s: IsWord %t, IsName %t", w, lex.IsWord(w), lex.IsName(w))
		}
		for _, s := range []string{strings.ToUpper(w), strings.ToUpper(w[:1]) + w[1:], w + "s", w + "_", w + "1", w[:len(w)-1], w[1:]} {
			if lex.IsWord(s) || !lex.IsName(s) {
				t.Errorf("%s: IsWord %t, IsName %t", s, lex.IsWord(s), lex.IsName(s))
			}
			wantTokens(t, s, name(s, 0))
		}
		for _, s := range []string{" " + w, w + " ", "_" + w, "1" + w, w + "\x00", w + " " + w} {
			if lex.IsWord(s) || lex.IsName(s) {
				t.Errorf("%q: IsWord %t, IsName %t", s, lex.IsWord(s), lex.IsName(s))
			}
		}
	}
	wantTokens(t, "FALSE TRUE", name("FALSE", 0), name("TRUE", 6))
}

func TestNames(t *testing.T) {
	for _, s := range []string{"a", "Z", "a_", "z9", "A0_b", "TRUE", "FALSE", "Void", "a" + strings.Repeat("_", 31), "x" + strings.Repeat("9", 31), strings.Repeat("Q", 32)} {
		if !lex.IsName(s) || lex.IsWord(s) {
			t.Errorf("%s is a name", s)
		}
		wantTokens(t, s, name(s, 0))
	}
	for _, s := range []string{"", "_", "_a", "1", "1a", "-1", "a b", "a-", "a ", " a", "a\n", "a/**/", "*", "\xe9", "é", "aé", "a\x00", "\x00a", "a.b", strings.Repeat("n", 33), "a" + strings.Repeat("_", 32), strings.Repeat("n", 16001)} {
		if lex.IsName(s) || lex.IsWord(s) {
			t.Errorf("%s is no name and no word", short(s))
		}
	}
}

func TestLongNames(t *testing.T) {
	long := "x" + strings.Repeat("9", 32)
	wantFault(t, "a "+long, api.ErrLexName, 2)
	wantFault(t, "a/**/"+long+" 08", api.ErrLexName, 5)
	wantFault(t, strings.Repeat("n", 16000), api.ErrLexName, 0)
	wantFault(t, "int"+strings.Repeat("_", 30), api.ErrLexName, 0)
	wantTokens(t, strings.Repeat("n", 32)+"*"+strings.Repeat("m", 32), name(strings.Repeat("n", 32), 0), sign("*", 32), name(strings.Repeat("m", 32), 33))
	// A number is no name: its run has no such bound.
	wantTokens(t, strings.Repeat("0", 40), number(0, 0))
}

func TestNumbers(t *testing.T) {
	for s, want := range map[string]int{
		"0": 0, "1": 1, "9": 9, "10": 10, "89": 89, "4294967294": 1<<32 - 2, "4294967295": 1<<32 - 1,
		"-1": -1, "-9": -9, "-10": -10, "-2147483647": -1<<31 + 1, "-2147483648": -1 << 31,
		"00": 0, "01": 1, "07": 7, "000": 0, "010": 8, "0777": 511, "037777777776": 1<<32 - 2, "037777777777": 1<<32 - 1, "0000037777777777": 1<<32 - 1,
		"0x0": 0, "0x1": 1, "0x9": 9, "0xa": 10, "0xA": 10, "0xf": 15, "0xF": 15, "0x00ab": 171, "0xfffffffe": 1<<32 - 2, "0xffffffff": 1<<32 - 1, "0xFFFFFFFF": 1<<32 - 1, "0x00000ffffffff": 1<<32 - 1,
		"2147483648": 1 << 31,
	} {
		wantTokens(t, s, number(want, 0))
		wantTokens(t, "a "+s+";", name("a", 0), number(want, 2), sign(";", 2+len(s)))
	}
	for _, n := range []int{15990, 15998} {
		wantTokens(t, strings.Repeat("0", n)+"17", number(15, 0))
		wantTokens(t, "0x"+strings.Repeat("0", n-2)+"1f", number(31, 0))
	}
}

func TestNoNumbers(t *testing.T) {
	for _, s := range []string{
		"-0", "-00", "-01", "-07", "-0x1", "-0xa", "-0x", "-08",
		"08", "09", "018", "0778", "08.", "0a", "0_", "0x", "0xg", "0xG", "0x_", "0x1g", "0x1_", "0X", "0X0", "0b1", "0o7", "00x1", "1x0", "0xx1",
		"1a", "1_", "1_0", "12e3", "1L", "10u", "-1a", "-1_", "-10x",
		"4294967296", "4294967300", "5000000000", "10000000000", "99999999999999999999999", "18446744073709551616", "18446744073709551617",
		"-2147483649", "-2147483650", "-4294967295", "-4294967296", "-9999999999", "-18446744073709551617",
		"040000000000", "0777777777777", "02000000000000000000001", "0x100000000", "0x1000000000", "0x10000000000000001",
		strings.Repeat("9", 16000), "0x" + strings.Repeat("f", 15998), strings.Repeat("1", 15999) + "z", "-" + strings.Repeat("1", 15999),
	} {
		wantFault(t, s, api.ErrLexNumber, 0)
		if len(s) < 15000 {
			wantFault(t, "a,"+s+" _", api.ErrLexNumber, 2)
		}
	}
}

// TestMinus: a '-' belongs to the digit that follows, and to nothing else.
func TestMinus(t *testing.T) {
	for c := range 256 {
		b := string([]byte{byte(c)})
		switch {
		case b == "0":
			wantFault(t, "a -"+b, api.ErrLexNumber, 2)
		case strings.Contains(digits, b):
			wantTokens(t, "a -"+b, name("a", 0), number('0'-c, 2))
		default:
			wantFault(t, "a -"+b, api.ErrLexByte, 2)
		}
	}
	for _, s := range []string{"-", "- ", "--5", "-/**/5", "-a", "-_1", "-*", "-/*"} {
		wantFault(t, s, api.ErrLexByte, 0)
	}
	wantFault(t, "5-", api.ErrLexByte, 1)
	wantTokens(t, "5-5", number(5, 0), number(-5, 1))
	wantTokens(t, "-5-6-7", number(-5, 0), number(-6, 2), number(-7, 4))
	wantTokens(t, "*-5", sign("*", 0), number(-5, 1))
	wantFault(t, "5-05", api.ErrLexNumber, 1)
	wantFault(t, "0x-5", api.ErrLexNumber, 0)
}

// TestSlash: a '/' begins a comment, or nothing.
func TestSlash(t *testing.T) {
	for c := range 256 {
		b := string([]byte{byte(c)})
		if b == "*" {
			wantFault(t, "a /"+b, api.ErrLexComment, 2)
			continue
		}
		wantFault(t, "a /"+b, api.ErrLexByte, 2)
	}
	for _, s := range []string{"/", "//", "// a", "/ *", "/a*"} {
		wantFault(t, s, api.ErrLexByte, 0)
	}
	wantFault(t, "a/", api.ErrLexByte, 1)
	wantFault(t, "*/", api.ErrLexByte, 1)
	wantFault(t, "/**//", api.ErrLexByte, 4)
	wantFault(t, "/**/*/", api.ErrLexByte, 5)
}

func TestComments(t *testing.T) {
	for _, s := range []string{"/**/", "/***/", "/****/", "/* */", "/*/*/", "/*//*/", "/* /* */", "/*\x00\xff\"_-*/", "/* a 08 _ */", "/*\n*/", "/** * ** /**/", "/*/**/", "/**//**/", "/*" + strings.Repeat("*", 100) + "/"} {
		wantTokens(t, s)
		wantTokens(t, "a"+s+"b", name("a", 0), name("b", 1+len(s)))
		wantTokens(t, "1"+s+"-1", number(1, 0), number(-1, 1+len(s)))
	}
	for _, s := range []string{"/*", "/*/", "/**", "/***", "/* ", "/* *", "/* * /", "/*a/", "/*/ /* //", "/*" + strings.Repeat(" ", 15998)} {
		wantFault(t, s, api.ErrLexComment, 0)
	}
	for _, s := range []string{"/*", "/*/", "/**", "/* *"} {
		wantFault(t, "a"+s, api.ErrLexComment, 1)
		wantFault(t, "/**/"+s, api.ErrLexComment, 4)
	}
	// None stands within another one: the first end is the end.
	wantTokens(t, "/* /* */ a", name("a", 9))
	wantFault(t, "/* /* */ a */", api.ErrLexByte, 12)
	// A comment parts, and is nothing else.
	wantTokens(t, "in/**/t", name("in", 0), name("t", 6))
	wantFault(t, "-/**/5", api.ErrLexByte, 0)
}

// TestFirstFault: of several it is the leftmost one.
func TestFirstFault(t *testing.T) {
	long := strings.Repeat("n", 33)
	faults := []struct {
		s string
		e api.Errno
	}{{"_", api.ErrLexByte}, {"08", api.ErrLexNumber}, {long, api.ErrLexName}, {"-0", api.ErrLexNumber}, {"\xff", api.ErrLexByte}, {"/", api.ErrLexByte}, {"-", api.ErrLexByte}}
	for _, first := range faults {
		for _, second := range faults {
			wantFault(t, "int x; "+first.s+" "+second.s, first.e, 7)
			wantFault(t, "int x; "+first.s+" /* "+second.s, first.e, 7)
			wantFault(t, "int x; /* "+first.s+" "+second.s, api.ErrLexComment, 7)
		}
	}
}

func TestLength(t *testing.T) {
	for _, s := range []string{" ", "a ", "_", "9", "/*", "\xff"} {
		for _, n := range []int{16001, 16002, 20000, 1 << 20} {
			wantFault(t, strings.Repeat(s, n)[:n], api.ErrLexLong, 16000)
		}
	}
	wantTokens(t, strings.Repeat(" ", 16000))
	wantTokens(t, strings.Repeat(" ", 15999)+"a", name("a", 15999))
	wantTokens(t, "/*"+strings.Repeat(" ", 15996)+"*/")
	wantFault(t, strings.Repeat(" ", 15999)+"_", api.ErrLexByte, 15999)
	wantFault(t, strings.Repeat(" ", 15999)+"-", api.ErrLexByte, 15999)
	wantFault(t, strings.Repeat(" ", 15999)+"/", api.ErrLexByte, 15999)
	var want []api.Token
	for at := range 16000 {
		want = append(want, sign("*", at))
	}
	wantTokens(t, strings.Repeat("*", 16000), want...)
}

// TestNewMemory: what comes out is nobody else's.
func TestNewMemory(t *testing.T) {
	const source = "struct a1 { int x; }; /* */ -5"
	s := string([]byte(source))
	first, _, _ := lex.Scan(s)
	want := slices.Clone(first)
	all := first[:cap(first)]
	second, _, _ := lex.Scan(s)
	for i := range all {
		all[i] = api.Token{Kind: 99, Text: "spoilt", Number: 99, At: 99}
	}
	third, _, _ := lex.Scan(s)
	if !slices.Equal(second, want) || !slices.Equal(third, want) {
		t.Errorf("%v and %v, not %v", second, third, want)
	}
	from := uintptr(unsafe.Pointer(unsafe.StringData(s)))
	for _, k := range want {
		at := uintptr(unsafe.Pointer(unsafe.StringData(k.Text)))
		if len(k.Text) > 0 && at >= from && at < from+uintptr(len(s)) {
			t.Errorf("%q lies in the source", k.Text)
		}
	}
}

package xdr_test

import (
	"math"
	"strings"
	"testing"

	"callbox/api"
	"callbox/real"
	"callbox/xdr"
)

// read calls, and tells what came as something that can be held against another: numbers with a point by their bits.
type read func(r *xdr.Reader) any

func readInt(r *xdr.Reader) any    { return r.Int() }
func readUint(r *xdr.Reader) any   { return r.Uint() }
func readHyper(r *xdr.Reader) any  { return r.Hyper() }
func readBool(r *xdr.Reader) any   { return r.Bool() }
func readFloat(r *xdr.Reader) any  { return math.Float32bits(r.Float()) }
func readDouble(r *xdr.Reader) any { return math.Float64bits(r.Double()) }
func readRest(r *xdr.Reader) any   { return r.Rest() }

func readFixed(n int) read     { return func(r *xdr.Reader) any { return r.Fixed(n) } }
func readOpaque(most int) read { return func(r *xdr.Reader) any { return r.Opaque(most) } }
func readCount(most int) read  { return func(r *xdr.Reader) any { return r.Count(most) } }

// zeros are all calls that read, and what they answer when something is wrong.
func zeros() map[string]struct {
	call read
	zero any
} {
	return map[string]struct {
		call read
		zero any
	}{
		"Int": {readInt, 0}, "Uint": {readUint, 0}, "Hyper": {readHyper, 0}, "Bool": {readBool, false},
		"Float": {readFloat, uint32(0)}, "Double": {readDouble, uint64(0)},
		"Fixed of 0": {readFixed(0), ""}, "Fixed of 1": {readFixed(1), ""}, "Fixed of 4": {readFixed(4), ""}, "Fixed of -1": {readFixed(-1), ""},
		"Opaque of 0": {readOpaque(0), ""}, "Opaque of all": {readOpaque(greatestWord), ""}, "Opaque of -1": {readOpaque(-1), ""},
		"Count of 0": {readCount(0), 0}, "Count of all": {readCount(greatestWord), 0}, "Count of 2^32": {readCount(greatestWord + 1), 0},
		"Rest": {readRest, ""},
	}
}

// X3, X4: what is read, and that just its bytes are taken.
func TestReaderReads(t *testing.T) {
	for _, c := range []struct {
		name  string
		bytes string
		call  read
		want  any
	}{
		{"int -1", "\xff\xff\xff\xff", readInt, -1},
		{"int 0", "\x00\x00\x00\x00", readInt, 0},
		{"int of all bytes", "\x01\x02\x03\x04", readInt, 0x01020304},
		{"least int", "\x80\x00\x00\x00", readInt, leastInt},
		{"greatest int", "\x7f\xff\xff\xff", readInt, greatestInt},
		{"word 0", "\x00\x00\x00\x00", readUint, 0},
		{"word 258", "\x00\x00\x01\x02", readUint, 258},
		{"word 2^31", "\x80\x00\x00\x00", readUint, 1 << 31},
		{"greatest word", "\xff\xff\xff\xff", readUint, greatestWord},
		{"hyper -2", "\xff\xff\xff\xff\xff\xff\xff\xfe", readHyper, -2},
		{"hyper of all bytes", "\x01\x02\x03\x04\x05\x06\x07\x08", readHyper, 0x0102030405060708},
		{"least hyper", "\x80\x00\x00\x00\x00\x00\x00\x00", readHyper, math.MinInt},
		{"greatest hyper", "\x7f\xff\xff\xff\xff\xff\xff\xff", readHyper, math.MaxInt},
		{"false", "\x00\x00\x00\x00", readBool, false},
		{"true", "\x00\x00\x00\x01", readBool, true},
		{"float 1", "\x3f\x80\x00\x00", readFloat, uint32(0x3f800000)},
		{"float -0", "\x80\x00\x00\x00", readFloat, uint32(0x80000000)},
		{"infinite float", "\xff\x80\x00\x00", readFloat, uint32(0xff800000)},
		{"float NaN", "\x7f\xc0\x00\x00", readFloat, uint32(0x7fc00000)},
		{"double 0.1", "\x3f\xb9\x99\x99\x99\x99\x99\x9a", readDouble, math.Float64bits(0.1)},
		{"double -0", "\x80\x00\x00\x00\x00\x00\x00\x00", readDouble, uint64(1 << 63)},
		{"infinite double", "\x7f\xf0\x00\x00\x00\x00\x00\x00", readDouble, uint64(0x7ff0000000000000)},
		{"double NaN", "\x7f\xf8\x00\x00\x00\x00\x00\x00", readDouble, uint64(0x7ff8000000000000)},
		{"fixed of 0", "", readFixed(0), ""},
		{"fixed of 1", "a\x00\x00\x00", readFixed(1), "a"},
		{"fixed of 2", "hi\x00\x00", readFixed(2), "hi"},
		{"fixed of 3", "\x00\x00\xff\x00", readFixed(3), "\x00\x00\xff"},
		{"fixed of 4", "abcd", readFixed(4), "abcd"},
		{"fixed of 5", "abcde\x00\x00\x00", readFixed(5), "abcde"},
		{"opaque of 0", "\x00\x00\x00\x00", readOpaque(0), ""},
		{"opaque of 1", "\x00\x00\x00\x01\x09\x00\x00\x00", readOpaque(1), "\x09"},
		{"opaque of 2", "\x00\x00\x00\x02hi\x00\x00", readOpaque(3), "hi"},
		{"opaque of 3", "\x00\x00\x00\x03\x00\x00\x00\x00", readOpaque(greatestWord), "\x00\x00\x00"},
		{"opaque of 4", "\x00\x00\x00\x04abcd", readOpaque(4), "abcd"},
		{"opaque of 5", "\x00\x00\x00\x05abcde\x00\x00\x00", readOpaque(9), "abcde"},
		{"opaque of 258", "\x00\x00\x01\x02" + strings.Repeat("z", 258) + "\x00\x00", readOpaque(258), strings.Repeat("z", 258)},
		{"count 0 of 0", "\x00\x00\x00\x00", readCount(0), 0},
		{"count 3 of 3", "\x00\x00\x00\x03", readCount(3), 3},
		{"count 3 of 7", "\x00\x00\x00\x03", readCount(7), 3},
		{"the greatest count", "\xff\xff\xff\xff", readCount(greatestWord), greatestWord},
	} {
		r := xdr.NewReader(c.bytes)
		if r.Left() != len(c.bytes) || r.Wrong() != api.OK || (r.Done() == api.OK) != (c.bytes == "") {
			t.Errorf("%s: at first: %d left, %d, %d", c.name, r.Left(), r.Wrong(), r.Done())
		}
		if got := c.call(r); got != c.want || r.Left() != 0 || r.Wrong() != api.OK || r.Done() != api.OK {
			t.Errorf("%s: %v, %d left, %d, %d", c.name, got, r.Left(), r.Wrong(), r.Done())
		}
		r = xdr.NewReader(c.bytes + c.bytes + "\xff")
		if one, two := c.call(r), c.call(r); one != c.want || two != c.want || r.Left() != 1 || r.Wrong() != api.OK || r.Done() != api.ErrXdrMore {
			t.Errorf("%s: %v %v, %d left, %d, %d", c.name, one, two, r.Left(), r.Wrong(), r.Done())
		}
		for cut := range len(c.bytes) {
			r := xdr.NewReader(c.bytes[:cut])
			if c.call(r); r.Left() != cut || r.Wrong() != api.ErrXdrShort || r.Done() != api.ErrXdrShort {
				t.Errorf("%s, cut to %d: %d left, %d, %d", c.name, cut, r.Left(), r.Wrong(), r.Done())
			}
		}
	}
}

// wrongReads are texts and calls with which this is wrong.
func wrongReads() []struct {
	bytes string
	call  read
	e     api.Errno
} {
	type wrong = struct {
		bytes string
		call  read
		e     api.Errno
	}
	out := []wrong{
		{"\x00\x00\x00\x02", readBool, api.ErrXdrBool},
		{"\x01\x00\x00\x01", readBool, api.ErrXdrBool},
		{"\x00\x00\x01\x00", readBool, api.ErrXdrBool},
		{"\xff\xff\xff\xff", readBool, api.ErrXdrBool},
		{"\x00\x00\x02", readBool, api.ErrXdrShort},
		{"\x7f\x80\x00\x01", readFloat, api.ErrXdrReal},
		{"\x7f\xc0\x00\x01", readFloat, api.ErrXdrReal},
		{"\xff\xc0\x00\x00", readFloat, api.ErrXdrReal},
		{"\xff\xff\xff", readFloat, api.ErrXdrShort},
		{"\x7f\xf0\x00\x00\x00\x00\x00\x01", readDouble, api.ErrXdrReal},
		{"\x7f\xf8\x00\x00\x00\x00\x00\x01", readDouble, api.ErrXdrReal},
		{"\xff\xf8\x00\x00\x00\x00\x00\x00", readDouble, api.ErrXdrReal},
		{"\xff\xff\xff\xff\xff\xff\xff", readDouble, api.ErrXdrShort},
		{"", readInt, api.ErrXdrShort},
		{"\x00\x00\x00", readUint, api.ErrXdrShort},
		{"\x00\x00\x00\x00", readHyper, api.ErrXdrShort},
		{"\x00\x00\x00\x00\x00\x00\x00", readHyper, api.ErrXdrShort},
		{"ab\x00\x01", readFixed(2), api.ErrXdrPad},
		{"ab\x01\x00", readFixed(2), api.ErrXdrPad},
		{"a\x01\x00\x00", readFixed(1), api.ErrXdrPad},
		{"a\x00\x01\x00", readFixed(1), api.ErrXdrPad},
		{"a\x00\x00\x01", readFixed(1), api.ErrXdrPad},
		{"abc\xff", readFixed(3), api.ErrXdrPad},
		{"ab\x00", readFixed(2), api.ErrXdrShort},
		{"ab\x01", readFixed(2), api.ErrXdrShort},
		{"abcd", readFixed(5), api.ErrXdrShort},
		{"abcd", readFixed(greatestWord), api.ErrXdrShort},
		{"", readFixed(1), api.ErrXdrShort},
		{"\x00\x00\x00\x01\x09\x00\x00\x01", readOpaque(0), api.ErrXdrLong},
		{"\x00\x00\x00\x01\x09\x00\x00\x01", readOpaque(1), api.ErrXdrPad},
		{"\x00\x00\x00\x02\x09\x09\x01\x00", readOpaque(2), api.ErrXdrPad},
		{"\x00\x00\x00\x03abcd", readOpaque(3), api.ErrXdrPad},
		{"\x00\x00\x00\x01", readOpaque(1), api.ErrXdrShort},
		{"\x00\x00\x00\x01\x09\x01\x01", readOpaque(1), api.ErrXdrShort},
		{"\x00\x00\x00\x02", readOpaque(1), api.ErrXdrLong},
		{"\x00\x00\x02", readOpaque(1), api.ErrXdrShort},
		{"\xff\xff\xff\xff", readOpaque(greatestWord - 1), api.ErrXdrLong},
		{"\xff\xff\xff\xff", readOpaque(greatestWord), api.ErrXdrShort},
		{"\x00\x00\x00\x04", readCount(3), api.ErrXdrLong},
		{"\x00\x00\x00\x01", readCount(0), api.ErrXdrLong},
		{"\x80\x00\x00\x00", readCount(greatestInt), api.ErrXdrLong},
		{"\xff\xff\xff\xff", readCount(greatestWord - 1), api.ErrXdrLong},
		{"\x00\x00\x04", readCount(3), api.ErrXdrShort},
		{"any text", func(r *xdr.Reader) any { r.Fail(99); return nil }, 99},
		{"", func(r *xdr.Reader) any { r.Fail(-1); return nil }, -1},
	}
	for _, n := range []int{-1, greatestWord + 1, math.MinInt, math.MaxInt} {
		for _, s := range []string{"", "abc", "\x00\x00\x00\x01\x00\x00\x00\x01"} {
			out = append(out, wrong{s, readFixed(n), api.ErrXdrRange}, wrong{s, readOpaque(n), api.ErrXdrRange}, wrong{s, readCount(n), api.ErrXdrRange})
		}
	}
	return out
}

// X3, X4: what is wrong takes nothing and stays, and whatever is read behind it takes nothing and answers nothing.
func TestReaderWrong(t *testing.T) {
	for i, c := range wrongReads() {
		for name, z := range zeros() {
			r := xdr.NewReader("\x00\x00\x00\x07" + c.bytes)
			if r.Uint() != 7 {
				t.Fatal("the word ahead")
			}
			c.call(r)
			check := func(when string) {
				if r.Left() != len(c.bytes) || r.Wrong() != c.e || r.Done() != c.e {
					t.Errorf("%d, %s: %d left, %d, %d, not %d", i, when, r.Left(), r.Wrong(), r.Done(), c.e)
				}
			}
			check("at once")
			for range 2 {
				if got := z.call(r); got != z.zero {
					t.Errorf("%d, behind it %s: %v", i, name, got)
				}
				check(name)
			}
			r.Fail(api.OK)
			r.Fail(1234)
			check("Fail")
		}
	}
}

// X3: with something wrong the call itself answers nothing.
func TestReaderWrongAnswersNothing(t *testing.T) {
	for i, c := range wrongReads() {
		switch got := c.call(xdr.NewReader(c.bytes)).(type) {
		case nil:
		case int:
			if got != 0 {
				t.Errorf("%d: %d", i, got)
			}
		case uint32, uint64:
			if got != uint32(0) && got != uint64(0) {
				t.Errorf("%d: %x", i, got)
			}
		case bool:
			if got {
				t.Errorf("%d: true", i)
			}
		case string:
			if got != "" {
				t.Errorf("%d: %q", i, got)
			}
		}
	}
}

// The chapter's third example.
func TestReaderExamples(t *testing.T) {
	r := xdr.NewReader("\x00\x00\x00\x02")
	if r.Bool() || r.Wrong() != api.ErrXdrBool || r.Left() != 4 || r.Int() != 0 {
		t.Errorf("0 0 0 2: %d, %d left", r.Wrong(), r.Left())
	}
	r = xdr.NewReader("abc")
	if s := r.Rest(); s != "abc" || r.Done() != api.OK {
		t.Errorf("Rest of three bytes: %q %d", s, r.Done())
	}
}

// X3: Rest takes whatever is left, also nothing, and again.
func TestReaderRest(t *testing.T) {
	for n := range 10 {
		s := "0123456789"[:n]
		r := xdr.NewReader("\x00\x00\x00\x00" + s)
		r.Int()
		if got := r.Rest(); got != s || r.Left() != 0 || r.Done() != api.OK {
			t.Errorf("%q: %q, %d left, %d", s, got, r.Left(), r.Done())
		}
		if got := r.Rest(); got != "" || r.Done() != api.OK {
			t.Errorf("%q, again: %q %d", s, got, r.Done())
		}
	}
}

// X4: Left, Wrong, Done and a Fail of OK change nothing.
func TestReaderGoesOn(t *testing.T) {
	r := xdr.NewReader("\x00\x00\x00\x01\x00\x00\x00\x02")
	for n := 1; n <= 2; n++ {
		r.Fail(api.OK)
		if r.Done() != api.ErrXdrMore || r.Wrong() != api.OK || r.Left() != 12-4*n {
			t.Errorf("ahead of %d: %d %d, %d left", n, r.Done(), r.Wrong(), r.Left())
		}
		if got := r.Uint(); got != n {
			t.Errorf("%d: %d", n, got)
		}
	}
	if r.Done() != api.OK {
		t.Errorf("the end: %d", r.Done())
	}
}

// Readers know nothing of one another, also those of one text.
func TestReadersApart(t *testing.T) {
	text := "\x00\x00\x00\x01\x00\x00\x00\x02"
	a, b := xdr.NewReader(text), xdr.NewReader(text)
	b.Fail(5)
	if a.Uint() != 1 || b.Uint() != 0 || a.Uint() != 2 || a.Done() != api.OK || b.Done() != 5 || b.Left() != 8 {
		t.Errorf("%d, %d left; %d, %d left", a.Done(), a.Left(), b.Done(), b.Left())
	}
}

// X3: a number with a point is read just if layer 1 has one of these bits.
func TestReaderRealBits(t *testing.T) {
	for _, b := range []uint32{0, 1, 0x7f7fffff, 0x7f800000, 0x7f800001, 0x7fbfffff, 0x7fc00000, 0x7fc00001, 0xff800000, 0xff800001, 0xffc00000, 0xffffffff} {
		f, e := real.From32(b)
		r := xdr.NewReader(string([]byte{byte(b >> 24), byte(b >> 16), byte(b >> 8), byte(b)}))
		if got := r.Float(); !real.Same32(got, f) || (r.Done() == api.OK) != (e == api.OK) {
			t.Errorf("%x: %g %d", b, got, r.Done())
		}
	}
}

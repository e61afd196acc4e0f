package xdr_test

import (
	"math"
	"strings"
	"testing"

	"callbox/api"
	"callbox/xdr"
)

const (
	leastInt     = -1 << 31
	greatestInt  = 1<<31 - 1
	greatestWord = 1<<32 - 1
)

type write func(w *xdr.Writer)

// written is what a Writer with more than enough room makes of some calls.
func written(calls ...write) (string, api.Errno) {
	w := xdr.NewWriter(1 << 20)
	for _, call := range calls {
		call(w)
	}
	return w.Done()
}

func nan32(b uint32) float32 { return math.Float32frombits(b) }
func nan64(b uint64) float64 { return math.Float64frombits(b) }

// goodWrites are calls that lay down just these bytes.
func goodWrites() map[string]struct {
	call write
	laid string
} {
	minus := math.Copysign(0, -1)
	return map[string]struct {
		call write
		laid string
	}{
		"int -1":              {func(w *xdr.Writer) { w.Int(-1) }, "\xff\xff\xff\xff"},
		"int 0":               {func(w *xdr.Writer) { w.Int(0) }, "\x00\x00\x00\x00"},
		"int 16909060":        {func(w *xdr.Writer) { w.Int(0x01020304) }, "\x01\x02\x03\x04"},
		"least int":           {func(w *xdr.Writer) { w.Int(leastInt) }, "\x80\x00\x00\x00"},
		"greatest int":        {func(w *xdr.Writer) { w.Int(greatestInt) }, "\x7f\xff\xff\xff"},
		"word 0":              {func(w *xdr.Writer) { w.Uint(0) }, "\x00\x00\x00\x00"},
		"word 258":            {func(w *xdr.Writer) { w.Uint(258) }, "\x00\x00\x01\x02"},
		"word 2^31":           {func(w *xdr.Writer) { w.Uint(1 << 31) }, "\x80\x00\x00\x00"},
		"greatest word":       {func(w *xdr.Writer) { w.Uint(greatestWord) }, "\xff\xff\xff\xff"},
		"hyper -2":            {func(w *xdr.Writer) { w.Hyper(-2) }, "\xff\xff\xff\xff\xff\xff\xff\xfe"},
		"hyper 0":             {func(w *xdr.Writer) { w.Hyper(0) }, "\x00\x00\x00\x00\x00\x00\x00\x00"},
		"hyper of all bytes":  {func(w *xdr.Writer) { w.Hyper(0x0102030405060708) }, "\x01\x02\x03\x04\x05\x06\x07\x08"},
		"least hyper":         {func(w *xdr.Writer) { w.Hyper(math.MinInt) }, "\x80\x00\x00\x00\x00\x00\x00\x00"},
		"greatest hyper":      {func(w *xdr.Writer) { w.Hyper(math.MaxInt) }, "\x7f\xff\xff\xff\xff\xff\xff\xff"},
		"false":               {func(w *xdr.Writer) { w.Bool(false) }, "\x00\x00\x00\x00"},
		"true":                {func(w *xdr.Writer) { w.Bool(true) }, "\x00\x00\x00\x01"},
		"float 1":             {func(w *xdr.Writer) { w.Float(1) }, "\x3f\x80\x00\x00"},
		"float -0":            {func(w *xdr.Writer) { w.Float(float32(minus)) }, "\x80\x00\x00\x00"},
		"least float":         {func(w *xdr.Writer) { w.Float(math.SmallestNonzeroFloat32) }, "\x00\x00\x00\x01"},
		"infinite float":      {func(w *xdr.Writer) { w.Float(float32(math.Inf(-1))) }, "\xff\x80\x00\x00"},
		"float NaN":           {func(w *xdr.Writer) { w.Float(nan32(0x7fc00000)) }, "\x7f\xc0\x00\x00"},
		"another float NaN":   {func(w *xdr.Writer) { w.Float(nan32(0xffffffff)) }, "\x7f\xc0\x00\x00"},
		"double 0.1":          {func(w *xdr.Writer) { w.Double(0.1) }, "\x3f\xb9\x99\x99\x99\x99\x99\x9a"},
		"double -0":           {func(w *xdr.Writer) { w.Double(minus) }, "\x80\x00\x00\x00\x00\x00\x00\x00"},
		"infinite double":     {func(w *xdr.Writer) { w.Double(math.Inf(1)) }, "\x7f\xf0\x00\x00\x00\x00\x00\x00"},
		"double NaN":          {func(w *xdr.Writer) { w.Double(math.NaN()) }, "\x7f\xf8\x00\x00\x00\x00\x00\x00"},
		"another double NaN":  {func(w *xdr.Writer) { w.Double(nan64(0xffffffffffffffff)) }, "\x7f\xf8\x00\x00\x00\x00\x00\x00"},
		"fixed of 0":          {func(w *xdr.Writer) { w.Fixed(0, "") }, ""},
		"fixed of 1":          {func(w *xdr.Writer) { w.Fixed(1, "a") }, "a\x00\x00\x00"},
		"fixed of 2":          {func(w *xdr.Writer) { w.Fixed(2, "hi") }, "hi\x00\x00"},
		"fixed of 3":          {func(w *xdr.Writer) { w.Fixed(3, "a\xffc") }, "a\xffc\x00"},
		"fixed of 4":          {func(w *xdr.Writer) { w.Fixed(4, "abcd") }, "abcd"},
		"fixed of 5":          {func(w *xdr.Writer) { w.Fixed(5, "abcde") }, "abcde\x00\x00\x00"},
		"opaque of 0":         {func(w *xdr.Writer) { w.Opaque(0, "") }, "\x00\x00\x00\x00"},
		"opaque of 1":         {func(w *xdr.Writer) { w.Opaque(1, "a") }, "\x00\x00\x00\x01a\x00\x00\x00"},
		"opaque of 2":         {func(w *xdr.Writer) { w.Opaque(2, "\x00\x00") }, "\x00\x00\x00\x02\x00\x00\x00\x00"},
		"opaque of 3":         {func(w *xdr.Writer) { w.Opaque(greatestWord, "abc") }, "\x00\x00\x00\x03abc\x00"},
		"opaque of 4":         {func(w *xdr.Writer) { w.Opaque(5, "abcd") }, "\x00\x00\x00\x04abcd"},
		"opaque of 5":         {func(w *xdr.Writer) { w.Opaque(9, "abcde") }, "\x00\x00\x00\x05abcde\x00\x00\x00"},
		"opaque of 258":       {func(w *xdr.Writer) { w.Opaque(258, strings.Repeat("z", 258)) }, "\x00\x00\x01\x02" + strings.Repeat("z", 258) + "\x00\x00"},
		"count 0 of 0":        {func(w *xdr.Writer) { w.Count(0, 0) }, "\x00\x00\x00\x00"},
		"count 3 of 3":        {func(w *xdr.Writer) { w.Count(3, 3) }, "\x00\x00\x00\x03"},
		"count 3 of 7":        {func(w *xdr.Writer) { w.Count(7, 3) }, "\x00\x00\x00\x03"},
		"the greatest count":  {func(w *xdr.Writer) { w.Count(greatestWord, greatestWord) }, "\xff\xff\xff\xff"},
		"raw nothing":         {func(w *xdr.Writer) { w.Raw("") }, ""},
		"raw wxyz":            {func(w *xdr.Writer) { w.Raw("wxyz") }, "wxyz"},
		"raw of eight":        {func(w *xdr.Writer) { w.Raw("\x00\xff345678") }, "\x00\xff345678"},
		"no failure":          {func(w *xdr.Writer) { w.Fail(api.OK) }, ""},
		"asking how many":     {func(w *xdr.Writer) { w.Len() }, ""},
		"asking what is done": {func(w *xdr.Writer) { w.Done() }, ""},
	}
}

// wrongWrites are calls with which this is wrong, however much room there is.
func wrongWrites() map[string]struct {
	call write
	e    api.Errno
} {
	return map[string]struct {
		call write
		e    api.Errno
	}{
		"int 2^31":                        {func(w *xdr.Writer) { w.Int(greatestInt + 1) }, api.ErrXdrRange},
		"int -2^31 - 1":                   {func(w *xdr.Writer) { w.Int(leastInt - 1) }, api.ErrXdrRange},
		"int 2^32":                        {func(w *xdr.Writer) { w.Int(1 << 32) }, api.ErrXdrRange},
		"int of the least hyper":          {func(w *xdr.Writer) { w.Int(math.MinInt) }, api.ErrXdrRange},
		"int of the greatest hyper":       {func(w *xdr.Writer) { w.Int(math.MaxInt) }, api.ErrXdrRange},
		"word -1":                         {func(w *xdr.Writer) { w.Uint(-1) }, api.ErrXdrRange},
		"word 2^32":                       {func(w *xdr.Writer) { w.Uint(greatestWord + 1) }, api.ErrXdrRange},
		"word of the least hyper":         {func(w *xdr.Writer) { w.Uint(math.MinInt) }, api.ErrXdrRange},
		"word of the greatest hyper":      {func(w *xdr.Writer) { w.Uint(math.MaxInt) }, api.ErrXdrRange},
		"fixed of -1":                     {func(w *xdr.Writer) { w.Fixed(-1, "hi") }, api.ErrXdrRange},
		"fixed of 2^32":                   {func(w *xdr.Writer) { w.Fixed(greatestWord+1, "hi") }, api.ErrXdrRange},
		"fixed of the least hyper":        {func(w *xdr.Writer) { w.Fixed(math.MinInt, "") }, api.ErrXdrRange},
		"fixed of the greatest hyper":     {func(w *xdr.Writer) { w.Fixed(math.MaxInt, "") }, api.ErrXdrRange},
		"fixed, a text too short":         {func(w *xdr.Writer) { w.Fixed(3, "hi") }, api.ErrXdrLong},
		"fixed, a text too long":          {func(w *xdr.Writer) { w.Fixed(1, "hi") }, api.ErrXdrLong},
		"fixed of the greatest word":      {func(w *xdr.Writer) { w.Fixed(greatestWord, "hi") }, api.ErrXdrLong},
		"fixed of 0, a text":              {func(w *xdr.Writer) { w.Fixed(0, "a") }, api.ErrXdrLong},
		"fixed of 4, none":                {func(w *xdr.Writer) { w.Fixed(4, "") }, api.ErrXdrLong},
		"opaque of at most -1":            {func(w *xdr.Writer) { w.Opaque(-1, "") }, api.ErrXdrRange},
		"opaque of at most 2^32":          {func(w *xdr.Writer) { w.Opaque(greatestWord+1, "hi") }, api.ErrXdrRange},
		"opaque of the least hyper":       {func(w *xdr.Writer) { w.Opaque(math.MinInt, "hi") }, api.ErrXdrRange},
		"opaque of the greatest hyper":    {func(w *xdr.Writer) { w.Opaque(math.MaxInt, "hi") }, api.ErrXdrRange},
		"opaque, a text too long":         {func(w *xdr.Writer) { w.Opaque(1, "hi") }, api.ErrXdrLong},
		"opaque of 0, a text":             {func(w *xdr.Writer) { w.Opaque(0, "a") }, api.ErrXdrLong},
		"count of at most -1":             {func(w *xdr.Writer) { w.Count(-1, 0) }, api.ErrXdrRange},
		"count of at most 2^32":           {func(w *xdr.Writer) { w.Count(greatestWord+1, 0) }, api.ErrXdrRange},
		"count of -1":                     {func(w *xdr.Writer) { w.Count(3, -1) }, api.ErrXdrRange},
		"count of the least hyper":        {func(w *xdr.Writer) { w.Count(3, math.MinInt) }, api.ErrXdrRange},
		"count of both wrong":             {func(w *xdr.Writer) { w.Count(-5, -3) }, api.ErrXdrRange},
		"count too many for a wrong most": {func(w *xdr.Writer) { w.Count(-5, 3) }, api.ErrXdrRange},
		"count 4 of 3":                    {func(w *xdr.Writer) { w.Count(3, 4) }, api.ErrXdrLong},
		"count 2^32 of 2^32 - 1":          {func(w *xdr.Writer) { w.Count(greatestWord, greatestWord+1) }, api.ErrXdrLong},
		"count of the greatest hyper":     {func(w *xdr.Writer) { w.Count(greatestWord, math.MaxInt) }, api.ErrXdrLong},
		"raw of 1":                        {func(w *xdr.Writer) { w.Raw("a") }, api.ErrArg},
		"raw of 2":                        {func(w *xdr.Writer) { w.Raw("ab") }, api.ErrArg},
		"raw of 3":                        {func(w *xdr.Writer) { w.Raw("abc") }, api.ErrArg},
		"raw of 5":                        {func(w *xdr.Writer) { w.Raw("abcde") }, api.ErrArg},
		"a failure of one's own":          {func(w *xdr.Writer) { w.Fail(77) }, 77},
		"a failure below 0":               {func(w *xdr.Writer) { w.Fail(math.MinInt) }, math.MinInt},
	}
}

// The chapter's first two examples.
func TestWriterExamples(t *testing.T) {
	s, e := written(
		func(w *xdr.Writer) { w.Int(-1) },
		func(w *xdr.Writer) { w.Uint(258) },
		func(w *xdr.Writer) { w.Bool(true) },
		func(w *xdr.Writer) { w.Fixed(2, "hi") },
		func(w *xdr.Writer) { w.Opaque(9, "abcde") },
	)
	want := string([]byte{255, 255, 255, 255, 0, 0, 1, 2, 0, 0, 0, 1, 104, 105, 0, 0, 0, 0, 0, 5, 97, 98, 99, 100, 101, 0, 0, 0})
	if s != want || e != api.OK {
		t.Errorf("%q %d", s, e)
	}
	w := xdr.NewWriter(7)
	w.Int(1)
	w.Int(2)
	if s, e := w.Done(); s != "" || e != api.ErrXdrLong || w.Len() != 4 {
		t.Errorf("a Writer of at most 7 bytes: %q %d, %d", s, e, w.Len())
	}
}

// X1, X2: what is laid down stands behind what was there, and Len counts it.
func TestWriterLaysDown(t *testing.T) {
	for name, c := range goodWrites() {
		w := xdr.NewWriter(1 << 20)
		if s, e := w.Done(); s != "" || e != api.OK || w.Len() != 0 {
			t.Errorf("a new Writer: %q %d, %d", s, e, w.Len())
		}
		w.Raw("ahead of")
		c.call(w)
		if s, e := w.Done(); s != "ahead of"+c.laid || e != api.OK || w.Len() != 8+len(c.laid) {
			t.Errorf("%s: %q %d, %d", name, s, e, w.Len())
		}
		c.call(w)
		if s, e := w.Done(); s != "ahead of"+c.laid+c.laid || e != api.OK || w.Len() != 8+2*len(c.laid) {
			t.Errorf("%s, twice: %q %d, %d", name, s, e, w.Len())
		}
	}
}

// X1: a call is wrong for its own reason, whether there is room or not, and lays nothing down.
func TestWriterWrong(t *testing.T) {
	for name, c := range wrongWrites() {
		for _, most := range []int{math.MinInt, -1, 0, 3, 1 << 20, math.MaxInt} {
			w := xdr.NewWriter(most)
			c.call(w)
			if s, e := w.Done(); s != "" || e != c.e || w.Len() != 0 {
				t.Errorf("%s, room %d: %q %d, %d", name, most, s, e, w.Len())
			}
		}
	}
}

// X1: there is room for all of a call, or nothing of it is laid down.
func TestWriterRoom(t *testing.T) {
	for name, c := range goodWrites() {
		for ahead := 0; ahead <= 8; ahead += 4 {
			need := ahead + len(c.laid)
			for most := ahead; most <= need+1; most++ {
				w := xdr.NewWriter(most)
				w.Raw(strings.Repeat("r", ahead))
				c.call(w)
				s, e := w.Done()
				if most >= need && (e != api.OK || s != strings.Repeat("r", ahead)+c.laid) {
					t.Errorf("%s behind %d, room %d: %q %d", name, ahead, most, s, e)
				}
				if most < need && (e != api.ErrXdrLong || s != "" || w.Len() != ahead) {
					t.Errorf("%s behind %d, room %d: %q %d, %d", name, ahead, most, s, e, w.Len())
				}
			}
		}
		for _, most := range []int{0, -1, -4, math.MinInt} {
			w := xdr.NewWriter(most)
			c.call(w)
			if s, e := w.Done(); s != "" || w.Len() != 0 || (e == api.OK) != (c.laid == "") || e != api.OK && e != api.ErrXdrLong {
				t.Errorf("%s, room %d: %q %d, %d", name, most, s, e, w.Len())
			}
		}
		w := xdr.NewWriter(math.MaxInt)
		c.call(w)
		if s, e := w.Done(); s != c.laid || e != api.OK {
			t.Errorf("%s, all the room: %q %d", name, s, e)
		}
	}
}

// X2: what was wrong first stays, whatever is called behind it.
func TestWriterFirstWrongStays(t *testing.T) {
	for first, a := range wrongWrites() {
		w := xdr.NewWriter(1 << 20)
		w.Raw("eight by")
		a.call(w)
		check := func(name string) {
			if s, e := w.Done(); s != "" || e != a.e || w.Len() != 8 {
				t.Errorf("%s, and then %s: %q %d, %d", first, name, s, e, w.Len())
			}
		}
		for name, b := range wrongWrites() {
			b.call(w)
			check(name)
		}
		for name, b := range goodWrites() {
			b.call(w)
			check(name)
		}
	}
	w := xdr.NewWriter(4)
	w.Raw("12345678")
	w.Raw("1234")
	w.Fail(9)
	if s, e := w.Done(); s != "" || e != api.ErrXdrLong || w.Len() != 0 {
		t.Errorf("no room, and then some: %q %d, %d", s, e, w.Len())
	}
}

// X2: Len and Done change nothing; what was told stays what it was.
func TestWriterGoesOn(t *testing.T) {
	w := xdr.NewWriter(1000)
	var told []string
	for i := range 50 {
		w.Uint(i)
		s, e := w.Done()
		if again, _ := w.Done(); again != s || e != api.OK || w.Len() != 4*(i+1) || w.Len() != len(s) {
			t.Fatalf("%d: %q %q %d, %d", i, s, again, e, w.Len())
		}
		told = append(told, s)
	}
	for i, s := range told {
		if s != told[49][:4*(i+1)] {
			t.Errorf("%d: %q", i, s)
		}
	}
}

// Writers know nothing of one another.
func TestWritersApart(t *testing.T) {
	a, b := xdr.NewWriter(8), xdr.NewWriter(8)
	a.Int(1)
	b.Fail(5)
	a.Int(2)
	b.Int(3)
	if s, e := a.Done(); s != "\x00\x00\x00\x01\x00\x00\x00\x02" || e != api.OK {
		t.Errorf("%q %d", s, e)
	}
	if s, e := b.Done(); s != "" || e != 5 {
		t.Errorf("%q %d", s, e)
	}
}

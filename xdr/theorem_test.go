package xdr_test

import (
	"encoding/binary"
	"math"
	"math/rand"
	"strings"
	"testing"

	"callbox/api"
	"callbox/real"
	"callbox/xdr"
)

// step is one call, of a Writer or of a Reader, with all that one may be handed.
type step struct {
	name   string
	size   int // n of Fixed, most of Opaque and Count
	n      int
	b      bool
	single float32
	double float64
	s      string
}

func names() []string {
	return []string{"Int", "Uint", "Hyper", "Bool", "Float", "Double", "Fixed", "Opaque", "Count"}
}

func (c step) write(w *xdr.Writer) {
	switch c.name {
	case "Int":
		w.Int(c.n)
	case "Uint":
		w.Uint(c.n)
	case "Hyper":
		w.Hyper(c.n)
	case "Bool":
		w.Bool(c.b)
	case "Float":
		w.Float(c.single)
	case "Double":
		w.Double(c.double)
	case "Fixed":
		w.Fixed(c.size, c.s)
	case "Opaque":
		w.Opaque(c.size, c.s)
	case "Count":
		w.Count(c.size, c.n)
	case "Raw":
		w.Raw(c.s)
	case "Fail":
		w.Fail(api.Errno(c.n))
	}
}

// read is a step of the same name and size with what was read in it, all else being zero.
func (c step) read(r *xdr.Reader) step {
	got := step{name: c.name, size: c.size}
	switch c.name {
	case "Int":
		got.n = r.Int()
	case "Uint":
		got.n = r.Uint()
	case "Hyper":
		got.n = r.Hyper()
	case "Bool":
		got.b = r.Bool()
	case "Float":
		got.single = r.Float()
	case "Double":
		got.double = r.Double()
	case "Fixed":
		got.s = r.Fixed(c.size)
	case "Opaque":
		got.s = r.Opaque(c.size)
	case "Count":
		got.n = r.Count(c.size)
	}
	return got
}

// same leaves out what the call does not hand over.
func same(a, b step) bool {
	switch a.name {
	case "Int", "Uint", "Hyper", "Count":
		return a.n == b.n
	case "Bool":
		return a.b == b.b
	case "Float":
		return real.Same32(a.single, b.single)
	case "Double":
		return real.Same64(a.double, b.double)
	}
	return a.s == b.s
}

// model is what the chapter says of a Writer, said another way: what a call would lay down, or what is wrong with it.
func model(c step) ([]byte, api.Errno) {
	word := func(n int) bool { return uint64(n) < 1<<32 }
	filled := func(out []byte) []byte {
		for len(out)%4 != 0 {
			out = append(out, 0)
		}
		return out
	}
	switch c.name {
	case "Int":
		if int(int32(c.n)) != c.n {
			return nil, api.ErrXdrRange
		}
		return binary.BigEndian.AppendUint32(nil, uint32(int32(c.n))), api.OK
	case "Uint":
		if !word(c.n) {
			return nil, api.ErrXdrRange
		}
		return binary.BigEndian.AppendUint32(nil, uint32(c.n)), api.OK
	case "Hyper":
		return binary.BigEndian.AppendUint64(nil, uint64(c.n)), api.OK
	case "Bool":
		if c.b {
			return []byte{0, 0, 0, 1}, api.OK
		}
		return []byte{0, 0, 0, 0}, api.OK
	case "Float":
		return binary.BigEndian.AppendUint32(nil, real.Bits32(c.single)), api.OK
	case "Double":
		return binary.BigEndian.AppendUint64(nil, real.Bits64(c.double)), api.OK
	case "Fixed":
		if !word(c.size) {
			return nil, api.ErrXdrRange
		}
		if c.size != len(c.s) {
			return nil, api.ErrXdrLong
		}
		return filled([]byte(c.s)), api.OK
	case "Opaque":
		if !word(c.size) {
			return nil, api.ErrXdrRange
		}
		if c.size < len(c.s) {
			return nil, api.ErrXdrLong
		}
		return filled(append(binary.BigEndian.AppendUint32(nil, uint32(len(c.s))), c.s...)), api.OK
	case "Count":
		if !word(c.size) || c.n < 0 {
			return nil, api.ErrXdrRange
		}
		if c.size < c.n {
			return nil, api.ErrXdrLong
		}
		return binary.BigEndian.AppendUint32(nil, uint32(c.n)), api.OK
	case "Raw":
		if len(c.s)&3 != 0 {
			return nil, api.ErrArg
		}
		return []byte(c.s), api.OK
	}
	return nil, api.Errno(c.n)
}

func anyNumber(r *rand.Rand) int {
	edges := []int{math.MinInt, math.MinInt + 1, leastInt - 1, leastInt, leastInt + 1, -2, -1, 0, 1, 2, 3, 4, 5, 8, greatestInt - 1, greatestInt, greatestInt + 1, greatestWord - 1, greatestWord, greatestWord + 1, math.MaxInt - 1, math.MaxInt}
	if r.Intn(3) == 0 {
		return int(r.Uint64()) >> r.Intn(64)
	}
	return edges[r.Intn(len(edges))]
}

func anyText(r *rand.Rand, most int) string {
	out := make([]byte, r.Intn(most+1))
	for i := range out {
		out[i] = byte(r.Intn(3)) * 127
	}
	return string(out)
}

func anyStep(r *rand.Rand) step {
	all := append(names(), "Raw", "Fail")
	c := step{name: all[r.Intn(len(all))], size: anyNumber(r), n: anyNumber(r), b: r.Intn(2) == 0, s: anyText(r, 12)}
	c.single, c.double = math.Float32frombits(r.Uint32()), math.Float64frombits(r.Uint64())
	if r.Intn(2) == 0 {
		c.size = len(c.s) + r.Intn(3) - 1
	}
	if c.name == "Fail" && r.Intn(2) == 0 {
		c.n = 0
	}
	return c
}

// goodStep is one with which nothing is wrong.
func goodStep(r *rand.Rand) step {
	for {
		c := anyStep(r)
		if _, e := model(c); e == api.OK && c.name != "Raw" && c.name != "Fail" {
			return c
		}
	}
}

// X1, X2: whatever is called, a Writer is as the model has it.
func TestWriterAsModel(t *testing.T) {
	r := rand.New(rand.NewSource(3))
	for range 20000 {
		most := r.Intn(80) - 4
		w := xdr.NewWriter(most)
		laid, wrong := []byte{}, api.OK
		for range r.Intn(12) {
			c := anyStep(r)
			bytes, e := model(c)
			if e == api.OK && len(laid)+len(bytes) > max(most, 0) {
				e = api.ErrXdrLong
			}
			if wrong == api.OK && e == api.OK {
				laid = append(laid, bytes...)
			}
			if wrong == api.OK {
				wrong = e
			}
			c.write(w)
			want := string(laid)
			if wrong != api.OK {
				want = ""
			}
			if s, e := w.Done(); s != want || e != wrong || w.Len() != len(laid) {
				t.Fatalf("%+v: %q %d, %d; not %q %d, %d", c, s, e, w.Len(), want, wrong, len(laid))
			}
		}
	}
}

// X5: there and back; cut by four bytes; with more behind it.
func TestWrittenIsRead(t *testing.T) {
	r := rand.New(rand.NewSource(4))
	for range 20000 {
		steps := make([]step, r.Intn(10))
		w := xdr.NewWriter(1000)
		for i := range steps {
			steps[i] = goodStep(r)
			steps[i].write(w)
		}
		text, e := w.Done()
		if e != api.OK || len(text)%4 != 0 {
			t.Fatalf("%+v: %q %d", steps, text, e)
		}
		in := xdr.NewReader(text)
		for _, c := range steps {
			if got := c.read(in); !same(c, got) {
				t.Fatalf("%+v came back as %+v", c, got)
			}
		}
		if e := in.Done(); e != api.OK {
			t.Fatalf("%+v: %d", steps, e)
		}
		if text != "" && readAll(steps, text[:len(text)-4]) != api.ErrXdrShort {
			t.Fatalf("%+v: cut: %d", steps, readAll(steps, text[:len(text)-4]))
		}
		for _, more := range []string{"\x00", "abc", "\x00\x00\x00\x00", strings.Repeat("z", 9)} {
			if e := readAll(steps, text+more); e != api.ErrXdrMore {
				t.Fatalf("%+v: with %q behind it: %d", steps, more, e)
			}
		}
	}
}

func readAll(steps []step, text string) api.Errno {
	r := xdr.NewReader(text)
	for _, c := range steps {
		c.read(r)
	}
	return r.Done()
}

// X5: a text that is read without an error is what the same calls lay down.
func TestReadIsWritten(t *testing.T) {
	r := rand.New(rand.NewSource(5))
	whole := 0
	for range 200000 {
		steps := make([]step, 1+r.Intn(4))
		text := ""
		for i := range steps {
			steps[i] = step{name: names()[r.Intn(9)], size: r.Intn(7)}
			text += string(make([]byte, 3*r.Intn(2))) + anyText(r, 6)
		}
		in := xdr.NewReader(text)
		w := xdr.NewWriter(1000)
		for _, c := range steps {
			c.read(in).write(w)
		}
		if in.Done() != api.OK {
			continue
		}
		whole++
		if s, e := w.Done(); s != text || e != api.OK {
			t.Fatalf("%+v of %q: %q %d", steps, text, s, e)
		}
	}
	if whole < 1000 {
		t.Errorf("only %d texts were read whole", whole)
	}
}

// X5: of the texts that differ in one byte from one that was laid down, each is refused, or is that of something else.
func TestEveryByteCounts(t *testing.T) {
	r := rand.New(rand.NewSource(6))
	for range 3000 {
		c := goodStep(r)
		bytes, _ := model(c)
		for i := range bytes {
			changed := append([]byte{}, bytes...)
			changed[i] ^= 1 << r.Intn(8)
			in := xdr.NewReader(string(changed))
			got := c.read(in)
			if in.Done() != api.OK {
				continue
			}
			if again, e := model(got); same(c, got) || e != api.OK || string(again) != string(changed) {
				t.Fatalf("%+v, byte %d changed: %+v", c, i, got)
			}
		}
	}
}

// FuzzRead looks for texts that are read without an error and laid down as others, and for calls that panic.
func FuzzRead(f *testing.F) {
	f.Add("\x07\x06", "\x00\x00\x00\x01a\x00\x00\x00hi\x00\x00", 2)
	f.Fuzz(func(t *testing.T, calls, text string, size int) {
		in := xdr.NewReader(text)
		w := xdr.NewWriter(len(text))
		for i := range len(calls) {
			c := step{name: names()[int(calls[i])%9], size: size}
			c.read(in).write(w)
		}
		if s, e := w.Done(); in.Done() == api.OK && (s != text || e != api.OK) {
			t.Errorf("%q: %q %d", text, s, e)
		}
	})
}

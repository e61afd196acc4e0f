package notation_test

import (
	"math/rand"
	"reflect"
	"slices"
	"strings"
	"sync"
	"testing"
	"unsafe"

	"callbox/api"
	"callbox/notation"
)

// span is where a list, with its spare room, or a text lies.
type span struct{ from, to uintptr }

// spans are all lists and texts of a value.
func spans(v api.Value, out []span) []span {
	if cap(v.Items) > 0 {
		from := uintptr(unsafe.Pointer(unsafe.SliceData(v.Items)))
		out = append(out, span{from, from + uintptr(cap(v.Items))*unsafe.Sizeof(v)})
	}
	out = textSpan(v.Text, out)
	for _, part := range v.Items {
		out = spans(part, out)
	}
	return out
}

func textSpan(s string, out []span) []span {
	if s == "" {
		return out
	}
	from := uintptr(unsafe.Pointer(unsafe.StringData(s)))
	return append(out, span{from, from + uintptr(len(s))})
}

func shared(all []span) bool {
	slices.SortFunc(all, func(a, b span) int { return int(a.from) - int(b.from) })
	for i := 1; i < len(all); i++ {
		if all[i-1].to > all[i].from {
			return true
		}
	}
	return false
}

// TestNewMemory: no two lists of what comes out share any, in one answer or in two, nor with what was handed in.
func TestNewMemory(t *testing.T) {
	r := rand.New(rand.NewSource(11))
	lists := 0
	for range 4000 {
		m := newMaker(r)
		at := m.somewhere()
		v := m.makeValue(at)
		if s, e := notation.Print(m.x, at, v); e == api.OK {
			first, _, _ := notation.Parse(m.x, at, s)
			second, _, _ := notation.Parse(m.x, at, s)
			all := textSpan(s, spans(first, spans(second, spans(v, nil))))
			lists += len(all)
			if shared(all) {
				t.Fatalf("%s: lists share memory", short(v))
			}
		}
	}
	if lists < 5000 {
		t.Errorf("%d lists", lists)
	}
}

// TestNotKept: what was handed in may be written into later, and what came out stays as it was.
func TestNotKept(t *testing.T) {
	x := compiled(t, source)
	for _, c := range samples {
		at := place(t, x, c.name)
		in := []byte(c.want)
		v, e, _ := notation.Parse(x, at, unsafe.String(unsafe.SliceData(in), len(in)))
		for i := range in {
			in[i] = '!'
		}
		if e != api.OK || !alike(v, c.v) {
			t.Errorf("%s: %s", c.want, short(v))
		}
		w := copied(c.v)
		s, _ := notation.Print(x, at, w)
		for _, one := range nodes(&w) {
			*one = api.Value{Kind: 99, Text: "!"}
		}
		if s != c.want {
			t.Errorf("%s: %s", c.want, s)
		}
	}
}

// TestWrittenInto: what comes out may be written into, and later answers are what they were.
func TestWrittenInto(t *testing.T) {
	x := compiled(t, source)
	at := place(t, x, "rows")
	s := `[["a","b"],["a","b"]]`
	first, _, _ := notation.Parse(x, at, s)
	want := copied(first)
	first.Items[0].Items[0] = whole(9)
	first.Items[0].Items[1].Text = "zz"
	if !alike(first.Items[1], want.Items[1]) {
		t.Error("one part is another one")
	}
	if again, _, _ := notation.Parse(x, at, s); !alike(again, want) {
		t.Error("what is read is another one")
	}
}

var mark = api.Value{Kind: 77, Text: "spare"}

// roomy is a value whose lists have spare room with something in it.
func roomy(v api.Value) api.Value {
	list := make([]api.Value, 0, len(v.Items)+2)
	for _, part := range v.Items {
		list = append(list, roomy(part))
	}
	v.Items = list
	_ = append(list, mark, mark)
	return v
}

func isRoomy(v api.Value) bool {
	spare := v.Items[:len(v.Items)+2][len(v.Items):]
	if !alike(spare[0], mark) || !alike(spare[1], mark) {
		return false
	}
	return !slices.ContainsFunc(v.Items, func(part api.Value) bool { return !isRoomy(part) })
}

func copiedSchema(x api.Schema) api.Schema {
	y := api.Schema{Names: slices.Clone(x.Names), Programs: slices.Clone(x.Programs)}
	for _, t := range x.Types {
		t.Members, t.Fields, t.Arms = slices.Clone(t.Members), slices.Clone(t.Fields), slices.Clone(t.Arms)
		for i := range t.Arms {
			t.Arms[i].Cases = slices.Clone(t.Arms[i].Cases)
		}
		y.Types = append(y.Types, t)
	}
	return y
}

// TestHandedIn: values and schemas that are handed in, and their spare room, are not written into.
func TestHandedIn(t *testing.T) {
	r := rand.New(rand.NewSource(12))
	for range 600 {
		m := newMaker(r)
		before := copiedSchema(m.x)
		at := m.somewhere()
		v := m.makeValue(at)
		s := modelText(m.x, at, v)
		if r.Intn(2) == 0 {
			m.spoil(&v)
			s = m.spoilText(s)
		}
		handed := roomy(v)
		notation.Print(m.x, at, handed)
		notation.Parse(m.x, at, s)
		if !alike(handed, v) || !isRoomy(handed) {
			t.Fatalf("%s was written into", short(v))
		}
		if !reflect.DeepEqual(m.x, before) {
			t.Fatalf("%s was written into", short(before))
		}
	}
}

// TestSharedParts: one list may stand in several places of a value.
func TestSharedParts(t *testing.T) {
	x := compiled(t, source)
	one := point(1, -2)
	wantText(t, x, place(t, x, "points"), items(api.List, one, one, one), "[{x=1,y=18446744073709551614},{x=1,y=18446744073709551614},{x=1,y=18446744073709551614}]")
}

// TestAgain: what a call answers does not hang on the calls ahead of it.
func TestAgain(t *testing.T) {
	x := compiled(t, source)
	for range 3 {
		for _, c := range samples {
			at := place(t, x, c.name)
			notation.Parse(x, at, c.want+" ")
			notation.Parse(x, at, strings.Repeat("[", 8001))
			notation.Print(x, at, cells(33))
			wantText(t, x, at, c.v, c.want)
		}
	}
}

// TestAtOnce: calls know nothing of one another, whoever calls.
func TestAtOnce(t *testing.T) {
	x := compiled(t, source)
	var all sync.WaitGroup
	for worker := range 8 {
		all.Go(func() {
			for i := range 200 {
				c := samples[(i*7+worker)%len(samples)]
				at := place(t, x, c.name)
				if s, e := notation.Print(x, at, c.v); s != c.want || e != api.OK {
					t.Errorf("%s: %s, %d", c.name, s, e)
				}
				if v, e, n := notation.Parse(x, at, c.want); !alike(v, c.v) || e != api.OK || n != 0 {
					t.Errorf("%s: %s, %d at %d", c.name, short(v), e, n)
				}
				if _, e, n := notation.Parse(x, at, c.want+"!"); e != api.ErrNotationForm || n != len(c.want) {
					t.Errorf("%s: %d at %d", c.name, e, n)
				}
			}
		})
	}
	all.Wait()
}

package value_test

import (
	"math/rand"
	"reflect"
	"slices"
	"sync"
	"testing"
	"unsafe"

	"callbox/api"
	"callbox/value"
)

// span is where a list lies, its spare room too.
type span struct{ from, to uintptr }

// spans are all lists of a value.
func spans(v api.Value, out []span) []span {
	if cap(v.Items) > 0 {
		from := uintptr(unsafe.Pointer(unsafe.SliceData(v.Items)))
		out = append(out, span{from, from + uintptr(cap(v.Items))*unsafe.Sizeof(v)})
	}
	for _, part := range v.Items {
		out = spans(part, out)
	}
	return out
}

func shared(all []span) bool {
	slices.SortFunc(all, func(a, b span) int { return int(a.from) - int(b.from) })
	for i := 1; i < len(all); i++ {
		if all[i-1].to > all[i].from {
			return true
		}
	}
	return false
}

// TestNewMemory: no two lists of what comes out share any, in one answer or in two.
func TestNewMemory(t *testing.T) {
	r := rand.New(rand.NewSource(11))
	lists := 0
	for range 6000 {
		m := newMaker(r)
		at := m.somewhere()
		v := m.makeValue(at)
		if s, e := value.Encode(m.x, at, v); e == api.OK {
			first, _ := value.Decode(m.x, at, s)
			second, _ := value.Decode(m.x, at, s)
			all := spans(first, spans(second, spans(v, nil)))
			lists += len(all)
			if shared(all) {
				t.Fatalf("%s: lists share memory", short(v))
			}
		}
		first, _ := value.Least(m.x, at)
		second, _ := value.Least(m.x, at)
		if shared(spans(first, spans(second, nil))) {
			t.Fatalf("the least ones share memory: %s", short(first))
		}
	}
	if lists < 5000 {
		t.Errorf("%d lists", lists)
	}
}

// TestWrittenInto: what comes out may be written into, and later answers are what they were.
func TestWrittenInto(t *testing.T) {
	x := compiled(t, source+"typedef all alls[2];")
	at := place(t, x, "alls")
	least, _ := value.Least(x, at)
	want := copied(least)
	least.Items[0].Items[0] = cells(1)
	least.Items[0].Items[2].Text = "zz"
	if !alike(least.Items[1], want.Items[1]) {
		t.Error("one part is another one")
	}
	if again, _ := value.Least(x, at); !alike(again, want) {
		t.Error("the least value is another one")
	}
	s, _ := value.Encode(x, at, want)
	read, _ := value.Decode(x, at, s)
	read.Items[0].Items[1].Double = 9
	if again, _ := value.Decode(x, at, s); !alike(again, want) {
		t.Error("what is read is another one")
	}
}

var mark = api.Value{Kind: 77, Text: "spare"}

// roomy is a value whose lists have spare room with something in it.
func roomy(v api.Value) api.Value {
	list := make([]api.Value, 0, len(v.Items)+2)
	for _, part := range v.Items {
		list = append(list, roomy(part))
	}
	v.Items = list
	_ = append(list, mark, mark)
	return v
}

func isRoomy(v api.Value) bool {
	spare := v.Items[:len(v.Items)+2][len(v.Items):]
	if !alike(spare[0], mark) || !alike(spare[1], mark) {
		return false
	}
	return !slices.ContainsFunc(v.Items, func(part api.Value) bool { return !isRoomy(part) })
}

func copiedSchema(x api.Schema) api.Schema {
	y := api.Schema{Names: slices.Clone(x.Names), Programs: slices.Clone(x.Programs)}
	for _, t := range x.Types {
		t.Members, t.Fields, t.Arms = slices.Clone(t.Members), slices.Clone(t.Fields), slices.Clone(t.Arms)
		for i := range t.Arms {
			t.Arms[i].Cases = slices.Clone(t.Arms[i].Cases)
		}
		y.Types = append(y.Types, t)
	}
	return y
}

// TestHandedIn: values and schemas that are handed in, and their spare room, are not written into.
func TestHandedIn(t *testing.T) {
	r := rand.New(rand.NewSource(12))
	for range 800 {
		m := newMaker(r)
		before := copiedSchema(m.x)
		at := m.somewhere()
		v := m.makeValue(at)
		if r.Intn(2) == 0 {
			m.spoil(&v)
		}
		handed := roomy(v)
		value.Fits(m.x, at, handed)
		s, _ := value.Encode(m.x, at, handed)
		value.Same(handed, handed)
		value.Depth(handed)
		value.Decode(m.x, at, s)
		value.Least(m.x, at)
		if !alike(handed, v) || !isRoomy(handed) {
			t.Fatalf("%s was written into", short(v))
		}
		if !reflect.DeepEqual(m.x, before) {
			t.Fatalf("%s was written into", short(before))
		}
	}
}

// TestSharedParts: one list may stand in several places of a value.
func TestSharedParts(t *testing.T) {
	x := compiled(t, source)
	point := parts(whole(1), whole(2))
	bytes := "\x00\x00\x00\x01\x00\x00\x00\x02"
	wantBytes(t, x, place(t, x, "points"), items(api.List, point, point, point), "\x00\x00\x00\x03"+bytes+bytes+bytes)
}

// TestAtOnce: calls know nothing of one another, whoever calls.
func TestAtOnce(t *testing.T) {
	x := compiled(t, source)
	var all sync.WaitGroup
	for worker := range 8 {
		all.Go(func() {
			for i := range 200 {
				c := samples[(i*7+worker)%len(samples)]
				at := place(t, x, c.name)
				if s, e := value.Encode(x, at, c.v); s != c.want || e != api.OK {
					t.Errorf("%s: %q, %d", c.name, s, e)
				}
				if v, e := value.Decode(x, at, c.want); !alike(v, c.v) || e != api.OK {
					t.Errorf("%s: %s, %d", c.name, short(v), e)
				}
				if e := value.Fits(x, at, cells(33)); e != api.ErrValueDeep {
					t.Errorf("%s: %d", c.name, e)
				}
			}
		})
	}
	all.Wait()
}

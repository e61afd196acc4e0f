package shelf_test

import (
	"testing"

	"callbox/api"
)

// wantShelf goes through a shelf for two, with three keys that are not the same, each handed in by a function, so that equal ones need not be one memory.
func wantShelf[K, V comparable](t *testing.T, what string, a, b, c func() K, v, w V) {
	t.Helper()
	s := shelfFor[K, V](t, 2)
	wantErrno(t, what+": the first", s.Put(a(), v), api.OK)
	wantErrno(t, what+": the second", s.Put(b(), v), api.OK)
	wantErrno(t, what+": one more", s.Put(c(), v), api.ErrShelfFull)
	wantErrno(t, what+": the first again", s.Put(a(), w), api.OK)
	wantKeys(t, what, s, a(), b())
	wantGot(t, s, a(), w)
	wantGot(t, s, b(), v)
	wantNothing(t, s, c())
	wantErrno(t, what+": Drop", s.Drop(c()), api.ErrShelfNone)
	wantErrno(t, what+": Drop", s.Drop(a()), api.OK)
	wantErrno(t, what+": another", s.Put(c(), w), api.OK)
	wantKeys(t, what, s, b(), c())
	if n := s.Prune(func(k K, _ V) bool { return k != b() }); n != 1 {
		t.Errorf("%s: Prune: %d", what, n)
	}
	wantKeys(t, what, s, c())
}

func always[K any](k K) func() K { return func() K { return k } }

// built is a text in memory of its own.
func built(text string) func() string { return func() string { return string([]byte(text)) } }

type client struct {
	address  int
	instance int64
	name     string
}

// TestKindsOfKeys: whatever == says, of whatever type.
func TestKindsOfKeys(t *testing.T) {
	wantShelf(t, "texts", built("key"), built("Key"), built("key\x00"), 1, 2)
	wantShelf(t, "bytes", built("\xff"), built(""), built("\xff\xfe"), 1, 2)
	wantShelf(t, "numbers", always(-1), always(0), always(1<<62), "v", "w")
	wantShelf(t, "small numbers", always(uint8(0)), always(uint8(255)), always(uint8(7)), "v", "w")
	wantShelf(t, "arrays", always([2]string{"a", "b"}), always([2]string{"b", "a"}), always([2]string{}), 1, 2)
	wantShelf(t, "structs",
		func() client { return client{1, 2, built("ab")()} },
		func() client { return client{1, 3, built("ab")()} },
		func() client { return client{1, 2, built("a")()} }, [2]int{1, 2}, [2]int{})
	x, y, z := new(int), new(int), new(int)
	wantShelf(t, "pointers", always(x), always(y), always(z), client{}, client{1, 1, "x"})
	wantShelf(t, "a nil pointer", always[*int](nil), always(y), always(z), 1, 2)
	wantShelf(t, "channels", always(make(chan int)), always[chan int](nil), always(make(chan int)), 1, 2)
}

// TestTwoKeys: a type of two values, and a type of one.
func TestTwoKeys(t *testing.T) {
	s := shelfFor[bool, int](t, 9)
	for range 3 {
		wantErrno(t, "true", s.Put(true, 1), api.OK)
		wantErrno(t, "false", s.Put(false, 2), api.OK)
		wantKeys(t, "bools", s, true, false)
	}
	one := shelfFor[struct{}, struct{}](t, 9)
	for range 3 {
		wantErrno(t, "the only one", one.Put(struct{}{}, struct{}{}), api.OK)
		wantKeys(t, "one", one, struct{}{})
	}
	wantErrno(t, "Drop", one.Drop(struct{}{}), api.OK)
	wantKeys(t, "none", one)
}

// TestThingsThatCannotBeCompared: things need no ==; one that is not there is the zero one.
func TestThingsThatCannotBeCompared(t *testing.T) {
	s := shelfFor[int, func() int](t, 2)
	for n := range 2 {
		wantErrno(t, "Put", s.Put(n, func() int { return n + 10 }), api.OK)
	}
	for n := range 2 {
		if f, is := s.Get(n); !is || f() != n+10 {
			t.Errorf("Get(%d)", n)
		}
	}
	if f, is := s.Get(2); is || f != nil {
		t.Error("Get of one that is not there")
	}
	wantErrno(t, "Put", s.Put(1, nil), api.OK)
	if f, is := s.Get(1); !is || f != nil {
		t.Error("Get of a nil function")
	}
	lists := shelfFor[string, []int](t, 1)
	if l, is := lists.Get("a"); is || l != nil {
		t.Error("Get of a list that is not there")
	}
	maps := shelfFor[string, map[string]int](t, 1)
	wantErrno(t, "Put", maps.Put("a", map[string]int{"x": 1}), api.OK)
	if m, is := maps.Get("a"); !is || m["x"] != 1 {
		t.Error("Get of a map")
	}
}

// TestShelfOfShelves: a shelf is a thing, too.
func TestShelfOfShelves(t *testing.T) {
	inner := letterShelf(t, 3, "ab")
	outer := shelfFor[string, any](t, 2)
	wantErrno(t, "Put", outer.Put("inner", inner), api.OK)
	wantErrno(t, "Put of itself", outer.Put("outer", outer), api.OK)
	if v, is := outer.Get("inner"); !is || v != any(inner) {
		t.Error("Get of a shelf")
	}
	if v, is := outer.Get("outer"); !is || v != any(outer) {
		t.Error("Get of the shelf itself")
	}
	wantErrno(t, "Put", inner.Put("c", 3), api.OK)
	wantLetters(t, "inner", inner, "abc")
	wantKeys(t, "outer", outer, "inner", "outer")
}

package shelf_test

import (
	"runtime"
	"slices"
	"strings"
	"sync"
	"testing"
	"time"
	"weak"

	"callbox/api"
	"callbox/shelf"
)

// scribble writes over a list, and over its spare room.
func scribble(list []string) {
	whole := list[:cap(list)]
	for i := range whole {
		whole[i] = "scribble"
	}
}

// TestKeysAreNewMemory: what is done with a list that came out is nothing to the shelf, nor to another list; and what is done with the shelf is nothing to the list.
func TestKeysAreNewMemory(t *testing.T) {
	change := map[string]func(s *letters) string{
		"nothing":       func(s *letters) string { return "abcd" },
		"put":           func(s *letters) string { s.Put("e", 5); return "abcde" },
		"put again":     func(s *letters) string { s.Put("b", 5); return "abcd" },
		"first dropped": func(s *letters) string { s.Drop("a"); return "bcd" },
		"last dropped":  func(s *letters) string { s.Drop("d"); return "abc" },
		"pruned":        func(s *letters) string { s.Prune(only("bd")); return "bd" },
		"all gone":      func(s *letters) string { s.Prune(only("")); return "" },
	}
	for what, f := range change {
		s := letterShelf(t, 9, "abcd")
		early, other := s.Keys(), s.Keys()
		left := f(s)
		late := s.Keys()
		if !slices.Equal(early, split("abcd")) || !slices.Equal(other, early) {
			t.Errorf("%s: a list that came out was changed", what)
		}
		scribble(early)
		if !slices.Equal(other, split("abcd")) || !slices.Equal(late, split(left)) {
			t.Errorf("%s: lists share memory", what)
		}
		scribble(late)
		wantLetters(t, what, s, left)
		wantErrno(t, what, s.Put("z", 26), api.OK)
		wantLetters(t, what+", one put", s, left+"z")
		wantNothing(t, s, "scribble")
		if late = late[:cap(late)]; len(late) > 0 && late[len(late)-1] != "scribble" {
			t.Errorf("%s: a list that came out was written into", what)
		}
	}
}

// TestKeysWhilePruning: a list that keep takes is its own, too.
func TestKeysWhilePruning(t *testing.T) {
	s := letterShelf(t, 4, "abcd")
	wantPruned(t, "scribbled", s, func(k string, _ int) bool {
		scribble(s.Keys())
		return k == "c"
	}, 3, "a1 b2 c3 d4", "c")
}

// TestKeptAsHandedIn: what a thing points to is not copied; a thing itself is.
func TestKeptAsHandedIn(t *testing.T) {
	lists := shelfFor[string, []int](t, 2)
	l := make([]int, 1, 4)
	l[0] = 1
	wantErrno(t, "Put", lists.Put("a", l), api.OK)
	l[0] = 2
	l = append(l, 3)
	got, is := lists.Get("a")
	if !is || len(got) != 1 || cap(got) != 4 || &got[0] != &l[0] || got[0] != 2 || got[:2][1] != 3 {
		t.Errorf("a list was copied or written into: %v", got)
	}
	arrays := shelfFor[[2]string, [2]int](t, 2)
	k, v := [2]string{"a", "b"}, [2]int{1, 2}
	wantErrno(t, "Put", arrays.Put(k, v), api.OK)
	k[0], v[0] = "z", 9
	wantGot(t, arrays, [2]string{"a", "b"}, [2]int{1, 2})
	arrays.Keys()[0][0] = "z"
	w, _ := arrays.Get([2]string{"a", "b"})
	w[0] = 9
	arrays.Prune(func(k [2]string, v [2]int) bool { k[0], v[0] = "z", 9; return true })
	wantKeys(t, "arrays", arrays, [2]string{"a", "b"})
	wantGot(t, arrays, [2]string{"a", "b"}, [2]int{1, 2})
}

// TestApart: shelves know nothing of one another.
func TestApart(t *testing.T) {
	x, y := letterShelf(t, 3, "ab"), letterShelf(t, 2, "ab")
	wantErrno(t, "the one has room", x.Put("c", 3), api.OK)
	wantErrno(t, "the other has none", y.Put("c", 3), api.ErrShelfFull)
	wantErrno(t, "Drop", x.Drop("a"), api.OK)
	y.Put("b", 20)
	y.Prune(only("b"))
	wantLetters(t, "the one", x, "bc")
	wantLetters(t, "the other", y, "b")
	wantGot(t, x, "b", 2)
	wantGot(t, y, "b", 20)
}

// TestCopied: a copy of what a pointer leads to is the same shelf, not half of one.
func TestCopied(t *testing.T) {
	x := letterShelf(t, 4, "abc")
	y := *x
	wantErrno(t, "Put", x.Put("d", 4), api.OK)
	wantErrno(t, "Put", y.Put("e", 5), api.ErrShelfFull)
	wantErrno(t, "Drop", y.Drop("c"), api.OK)
	wantErrno(t, "Drop", x.Drop("a"), api.OK)
	wantErrno(t, "Put", y.Put("e", 5), api.OK)
	for _, s := range []*letters{x, &y} {
		wantLetters(t, "copied", s, "bde")
		wantGot(t, s, "e", 5)
	}
}

// wantFreed: what a weak pointer leads to is not kept by anybody.
func wantFreed[T any](t *testing.T, what string, p weak.Pointer[T]) {
	t.Helper()
	for range 100 {
		runtime.GC()
		if p.Value() == nil {
			return
		}
		time.Sleep(time.Millisecond)
	}
	t.Errorf("%s: it is kept", what)
}

// TestNothingIsKept: what went, or was put over, or was refused, does not lie in the shelf.
func TestNothingIsKept(t *testing.T) {
	type big [1 << 12]int
	s := shelfFor[*big, *big](t, 2)
	stays := new(big)
	s.Put(stays, new(big))
	put := func(do func(k *big)) (weak.Pointer[big], weak.Pointer[big]) {
		k, v := new(big), new(big)
		s.Put(k, v)
		do(k)
		return weak.Make(k), weak.Make(v)
	}
	for what, do := range map[string]func(k *big){
		"dropped":             func(k *big) { s.Drop(k) },
		"pruned":              func(k *big) { s.Prune(func(x, _ *big) bool { return x != k }) },
		"dropped by the keep": func(k *big) { s.Prune(func(x, _ *big) bool { s.Drop(k); return true }) },
	} {
		k, v := put(do)
		wantFreed(t, what+", the key", k)
		wantFreed(t, what+", the thing", v)
	}
	over := func() weak.Pointer[big] {
		v := new(big)
		s.Put(stays, v)
		s.Put(stays, nil)
		return weak.Make(v)
	}
	wantFreed(t, "put over", over())
	s.Put(nil, nil)
	refused, _ := put(func(*big) {})
	wantFreed(t, "refused", refused)
	wantKeys(t, "what is left", s, stays, nil)
	runtime.KeepAlive(s)
}

// TestRoomIsNotTaken: a shelf takes memory for what is there, not for what may be.
func TestRoomIsNotTaken(t *testing.T) {
	var before, behind runtime.MemStats
	runtime.ReadMemStats(&before)
	for range 100 {
		s := shelfFor[string, [64]int](t, mostOfAll)
		s.Put("a", [64]int{})
		s.Keys()
	}
	runtime.ReadMemStats(&behind)
	if n := behind.TotalAlloc - before.TotalAlloc; n > 1<<20 {
		t.Errorf("%d bytes", n)
	}
}

// TestKeysWithoutThings: Keys takes no memory for great things.
func TestKeysWithoutThings(t *testing.T) {
	s := shelfFor[int, [1 << 12]int](t, 100)
	for n := range 100 {
		s.Put(n, [1 << 12]int{})
	}
	var before, behind runtime.MemStats
	runtime.ReadMemStats(&before)
	for range 10 {
		s.Keys()
	}
	runtime.ReadMemStats(&behind)
	if n := behind.TotalAlloc - before.TotalAlloc; n > 1<<18 {
		t.Errorf("%d bytes", n)
	}
}

// TestAtOnce: shelves of their own may be used at the same time.
func TestAtOnce(t *testing.T) {
	var all sync.WaitGroup
	for i := range 8 {
		all.Go(func() {
			s, e := shelf.New[string, int](500)
			wantErrno(t, "New", e, api.OK)
			for n := range 500 {
				wantErrno(t, "Put", s.Put(strings.Repeat("x", n), 1000*i+n), api.OK)
			}
			if n := s.Prune(func(k string, v int) bool { return v == 1000*i+len(k) && v%2 == 0 }); n != 250 {
				t.Errorf("Prune: %d", n)
			}
			for n := range 250 {
				wantErrno(t, "Drop", s.Drop(strings.Repeat("x", 2*n)), api.OK)
			}
			if s.Len() != 0 {
				t.Errorf("%d are left", s.Len())
			}
		})
	}
	all.Wait()
}

package shelf_test

import (
	"slices"
	"testing"

	"callbox/api"
	"callbox/shelf"
)

// shelfFor has room for so many.
func shelfFor[K comparable, V any](t *testing.T, most int) *shelf.Shelf[K, V] {
	t.Helper()
	s, e := shelf.New[K, V](most)
	if s == nil || e != api.OK {
		t.Fatalf("New(%d): %d", most, e)
	}
	return s
}

// letterShelf has room for so many, and under each letter its place among them, from 1 on.
func letterShelf(t *testing.T, most int, letters string) *shelf.Shelf[string, int] {
	t.Helper()
	s := shelfFor[string, int](t, most)
	for i := range len(letters) {
		wantErrno(t, "Put of "+letters[i:i+1], s.Put(letters[i:i+1], i+1), api.OK)
	}
	wantLetters(t, "put", s, letters)
	return s
}

func wantErrno(t *testing.T, what string, got, want api.Errno) {
	t.Helper()
	if got != want {
		t.Errorf("%s: %d, not %d", what, got, want)
	}
}

func wantKeys[K comparable, V any](t *testing.T, what string, s *shelf.Shelf[K, V], want ...K) {
	t.Helper()
	if got := s.Keys(); !slices.Equal(got, want) || s.Len() != len(want) {
		t.Errorf("%s: the keys are %v (%d), not %v", what, got, s.Len(), want)
	}
}

func wantLetters[V any](t *testing.T, what string, s *shelf.Shelf[string, V], letters string) {
	t.Helper()
	wantKeys(t, what, s, split(letters)...)
}

func split(letters string) []string {
	var out []string
	for i := range len(letters) {
		out = append(out, letters[i:i+1])
	}
	return out
}

func wantGot[K, V comparable](t *testing.T, s *shelf.Shelf[K, V], k K, want V) {
	t.Helper()
	if v, is := s.Get(k); v != want || !is {
		t.Errorf("Get(%v): %v, %v, not %v", k, v, is, want)
	}
}

func wantNothing[K, V comparable](t *testing.T, s *shelf.Shelf[K, V], k K) {
	t.Helper()
	var none V
	if v, is := s.Get(k); v != none || is {
		t.Errorf("Get(%v): %v, %v", k, v, is)
	}
}

// TestFirstExample is the chapter's.
func TestFirstExample(t *testing.T) {
	s := shelfFor[string, int](t, 2)
	wantErrno(t, "Put of a", s.Put("a", 1), api.OK)
	wantErrno(t, "Put of b", s.Put("b", 2), api.OK)
	wantErrno(t, "Put of c", s.Put("c", 3), api.ErrShelfFull)
	wantErrno(t, "Put of a", s.Put("a", 9), api.OK)
	wantLetters(t, "full", s, "ab")
	wantGot(t, s, "a", 9)
	wantNothing(t, s, "c")
	wantErrno(t, "Drop of a", s.Drop("a"), api.OK)
	wantErrno(t, "Drop of a", s.Drop("a"), api.ErrShelfNone)
	wantErrno(t, "Put of a", s.Put("a", 1), api.OK)
	wantLetters(t, "put again", s, "ba")
}

// TestSecondExample is the chapter's.
func TestSecondExample(t *testing.T) {
	s := shelfFor[int, int](t, 5)
	for n := 1; n <= 5; n++ {
		wantErrno(t, "Put", s.Put(n, n), api.OK)
	}
	if n := s.Prune(func(k, v int) bool { return k%2 == 1 }); n != 2 {
		t.Errorf("Prune: %d", n)
	}
	wantKeys(t, "pruned", s, 1, 3, 5)
	none := shelfFor[string, int](t, 0)
	wantErrno(t, "Put", none.Put("a", 1), api.ErrShelfFull)
	if s, e := shelf.New[string, int](-1); s != nil || e != api.ErrArg {
		t.Errorf("New(-1): %v, %d", s, e)
	}
}

// TestEmpty is S1: nothing is in a new one, whatever it has room for.
func TestEmpty(t *testing.T) {
	for _, most := range []int{0, 1, 2, 1000, 1 << 20} {
		s := shelfFor[string, int](t, most)
		wantLetters(t, "new", s, "")
		wantNothing(t, s, "")
		wantNothing(t, s, "a")
		wantErrno(t, "Drop", s.Drop("a"), api.ErrShelfNone)
		wantErrno(t, "Drop", s.Drop(""), api.ErrShelfNone)
		if n := s.Prune(func(string, int) bool { t.Error("asked"); return false }); n != 0 {
			t.Errorf("Prune: %d", n)
		}
		wantLetters(t, "asked", s, "")
	}
}

// TestNobodyMade: a shelf that New did not make has room for none.
func TestNobodyMade(t *testing.T) {
	var s shelf.Shelf[string, int]
	wantErrno(t, "Put", s.Put("a", 1), api.ErrShelfFull)
	wantErrno(t, "Drop", s.Drop("a"), api.ErrShelfNone)
	wantNothing(t, &s, "a")
	wantLetters(t, "nobody's", &s, "")
	if n := s.Prune(func(string, int) bool { return false }); n != 0 {
		t.Errorf("Prune: %d", n)
	}
}

// TestInItsPlace is S2: what is put under a key that is there stands where the other one stood, and the others as they did.
func TestInItsPlace(t *testing.T) {
	const all = "abcde"
	for i := range len(all) {
		for _, most := range []int{5, 6} {
			s := letterShelf(t, most, all)
			for n := range 3 {
				wantErrno(t, "Put", s.Put(all[i:i+1], 100+n), api.OK)
				wantLetters(t, "put in its place", s, all)
				for j := range len(all) {
					want := j + 1
					if i == j {
						want = 100 + n
					}
					wantGot(t, s, all[j:j+1], want)
				}
			}
		}
	}
}

// TestEachPlace is S3: the first one goes, each one, the last one; the others keep their order; what is put again is the last one.
func TestEachPlace(t *testing.T) {
	const all = "abcdefg"
	for i := range len(all) {
		one, left := all[i:i+1], all[:i]+all[i+1:]
		s := letterShelf(t, len(all), all)
		wantErrno(t, "Drop", s.Drop(one), api.OK)
		wantLetters(t, "dropped", s, left)
		wantNothing(t, s, one)
		wantErrno(t, "Drop", s.Drop(one), api.ErrShelfNone)
		wantLetters(t, "dropped twice", s, left)
		wantErrno(t, "Put", s.Put(one, 70), api.OK)
		wantLetters(t, "put again", s, left+one)
		wantGot(t, s, one, 70)
		wantErrno(t, "Put", s.Put("z", 0), api.ErrShelfFull)
		for j := range len(all) {
			if i != j {
				wantGot(t, s, all[j:j+1], j+1)
			}
		}
	}
}

// TestDropped is S3: whatever is dropped in whatever order, the rest is as it was.
func TestDropped(t *testing.T) {
	for _, order := range []string{"abcd", "dcba", "bdac", "cabd", "bcad"} {
		s := letterShelf(t, 4, "abcd")
		left := "abcd"
		for i := range len(order) {
			wantErrno(t, "Drop", s.Drop(order[i:i+1]), api.OK)
			at := slices.Index(split(left), order[i:i+1])
			left = left[:at] + left[at+1:]
			wantLetters(t, order, s, left)
		}
		wantErrno(t, "Put", s.Put("e", 5), api.OK)
		wantErrno(t, "Put", s.Put("a", 1), api.OK)
		wantLetters(t, order+", put again", s, "ea")
	}
}

// TestZeroes: a zero key is a key, and a zero thing is a thing.
func TestZeroes(t *testing.T) {
	s := shelfFor[string, int](t, 3)
	wantErrno(t, "Put", s.Put("", 0), api.OK)
	wantGot(t, s, "", 0)
	wantErrno(t, "Put", s.Put("a", 0), api.OK)
	wantKeys(t, "zeroes", s, "", "a")
	wantNothing(t, s, "b")
	asked := 0
	if n := s.Prune(func(k string, v int) bool { asked++; return k == "a" }); n != 1 || asked != 2 {
		t.Errorf("Prune: %d, of %d", n, asked)
	}
	wantKeys(t, "pruned", s, "a")
	wantErrno(t, "Drop", s.Drop(""), api.ErrShelfNone)
}

// TestAsking is S3 and S4: to ask changes nothing.
func TestAsking(t *testing.T) {
	s := letterShelf(t, 4, "abc")
	for range 3 {
		wantGot(t, s, "c", 3)
		wantGot(t, s, "a", 1)
		wantNothing(t, s, "d")
		wantErrno(t, "Drop", s.Drop("d"), api.ErrShelfNone)
		wantLetters(t, "asked", s, "abc")
	}
	wantErrno(t, "Put", s.Put("d", 4), api.OK)
	wantLetters(t, "put", s, "abcd")
}

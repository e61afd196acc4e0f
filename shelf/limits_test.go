package shelf_test

import (
	"math"
	"slices"
	"testing"

	"callbox/api"
	"callbox/shelf"
)

const mostOfAll = 1048576

// fullShelf has as many as it may, the number n under n times 7, which wraps round nowhere.
func fullShelf(t *testing.T, most int) *shelf.Shelf[int, int] {
	t.Helper()
	s := shelfFor[int, int](t, most)
	for n := range most {
		if e := s.Put(7*n, n); e != api.OK {
			t.Fatalf("Put: %d at %d", e, n)
		}
	}
	return s
}

// wantNumbers: the shelf has just those numbers, each under seven times itself.
func wantNumbers(t *testing.T, what string, s *shelf.Shelf[int, int], numbers []int) {
	t.Helper()
	keys := s.Keys()
	if len(keys) != len(numbers) || s.Len() != len(numbers) {
		t.Fatalf("%s: %d keys, of %d, not %d", what, len(keys), s.Len(), len(numbers))
	}
	for i, n := range numbers {
		if v, is := s.Get(7 * n); keys[i] != 7*n || v != n || !is {
			t.Fatalf("%s: at %d stands %d, and under %d %d, %v", what, i, keys[i], 7*n, v, is)
		}
	}
}

func upTo(n int) []int {
	var out []int
	for i := range n {
		out = append(out, i)
	}
	return out
}

// TestNew is S1: 0 to 2^20 may be, and nothing else.
func TestNew(t *testing.T) {
	for _, most := range []int{-1, -2, mostOfAll + 1, mostOfAll + 2, 1 << 21, 1 << 31, 1 << 32, 1<<32 + 1, -1 << 31, -1 << 32, math.MinInt, math.MaxInt} {
		if s, e := shelf.New[int, string](most); s != nil || e != api.ErrArg {
			t.Errorf("New(%d): %v, %d", most, s, e)
		}
	}
	for _, most := range []int{0, 1, 2, mostOfAll - 1, mostOfAll} {
		shelfFor[int, string](t, most)
	}
}

// TestFull is S2: as many as may be, and no more; what is refused changes nothing; what is there may be put again.
func TestFull(t *testing.T) {
	for _, most := range []int{0, 1, 2, 3, 7, 8, 9, 64, 1000, 5000} {
		s := fullShelf(t, most)
		for _, k := range []int{-1, 1, 7 * most, math.MaxInt} {
			wantErrno(t, "Put of one more", s.Put(k, 1), api.ErrShelfFull)
			wantNothing(t, s, k)
		}
		for n := range most {
			wantErrno(t, "Put of one that is there", s.Put(7*n, n), api.OK)
		}
		wantNumbers(t, "full", s, upTo(most))
	}
}

// TestRoomAgain is S2 and S3: one that goes makes room for one, whichever it is.
func TestRoomAgain(t *testing.T) {
	const most = 100
	for _, n := range []int{0, 1, 50, 98, 99} {
		s := fullShelf(t, most)
		wantErrno(t, "Drop", s.Drop(7*n), api.OK)
		wantErrno(t, "Put", s.Put(7*500, 500), api.OK)
		wantErrno(t, "Put of one more", s.Put(7*501, 501), api.ErrShelfFull)
		left := append(slices.Delete(upTo(most), n, n+1), 500)
		wantNumbers(t, "put again", s, left)
		if gone := s.Prune(func(k, v int) bool { return v != 500 && v != 3 }); gone != 2 {
			t.Errorf("Prune: %d", gone)
		}
		wantErrno(t, "Put", s.Put(7*501, 501), api.OK)
		wantErrno(t, "Put", s.Put(7*502, 502), api.OK)
		wantErrno(t, "Put of one more", s.Put(7*503, 503), api.ErrShelfFull)
		left = slices.DeleteFunc(left, func(v int) bool { return v == 500 || v == 3 })
		wantNumbers(t, "pruned, put again", s, append(left, 501, 502))
	}
}

// TestTheGreatest: 2^20 come, one by one, and go, from the first one on, from the last one on, and all at once.
func TestTheGreatest(t *testing.T) {
	s := fullShelf(t, mostOfAll)
	wantErrno(t, "Put of one more", s.Put(-1, 1), api.ErrShelfFull)
	all := upTo(mostOfAll)
	wantNumbers(t, "full", s, all)
	for n := range mostOfAll / 4 {
		wantErrno(t, "Drop of the first", s.Drop(7*n), api.OK)
		wantErrno(t, "Drop of the last", s.Drop(7*(mostOfAll-1-n)), api.OK)
	}
	wantNumbers(t, "the middle", s, all[mostOfAll/4:mostOfAll-mostOfAll/4])
	for n := range mostOfAll / 4 {
		wantErrno(t, "Put", s.Put(7*n, n), api.OK)
	}
	left := append(slices.Clone(all[mostOfAll/4:mostOfAll-mostOfAll/4]), all[:mostOfAll/4]...)
	wantNumbers(t, "put again", s, left)
	if n := s.Prune(func(_, v int) bool { return v%3 == 0 }); n != len(left)-mostOfAll/4 {
		t.Errorf("Prune: %d", n)
	}
	wantNumbers(t, "pruned", s, slices.DeleteFunc(left, func(v int) bool { return v%3 != 0 }))
}

// TestRoundAndRound: where one goes whenever one comes, a shelf stays as it is for however long.
func TestRoundAndRound(t *testing.T) {
	const most = 50
	s := fullShelf(t, most)
	for n := most; n < 100000; n++ {
		wantErrno(t, "Put of one more", s.Put(7*n, n), api.ErrShelfFull)
		wantErrno(t, "Drop", s.Drop(7*(n-most)), api.OK)
		wantErrno(t, "Put", s.Put(7*n, n), api.OK)
	}
	wantNumbers(t, "much later", s, upTo(100000)[100000-most:])
}

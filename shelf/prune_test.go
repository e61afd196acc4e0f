package shelf_test

import (
	"slices"
	"strconv"
	"strings"
	"testing"

	"callbox/api"
	"callbox/shelf"
)

type letters = shelf.Shelf[string, int]

// pruned asks by a function that is told the shelf; what was asked comes as a text, such as a1 b2.
func pruned(s *letters, keep func(k string, v int) bool) (int, string) {
	var asked []string
	n := s.Prune(func(k string, v int) bool {
		asked = append(asked, k+strconv.Itoa(v))
		return keep(k, v)
	})
	return n, strings.Join(asked, " ")
}

func wantPruned(t *testing.T, what string, s *letters, keep func(k string, v int) bool, count int, asked, left string) {
	t.Helper()
	n, got := pruned(s, keep)
	if n != count || got != asked {
		t.Errorf("%s: %d gone, not %d; asked were %s, not %s", what, n, count, got, asked)
	}
	wantLetters(t, what, s, left)
}

func only(wanted string) func(string, int) bool {
	return func(k string, _ int) bool { return strings.Contains(wanted, k) }
}

// TestPruneEachPart is S5: of five, whichever are wanted, those and no others are left, in their order, as they were.
func TestPruneEachPart(t *testing.T) {
	const all, asked = "abcde", "a1 b2 c3 d4 e5"
	for set := range 1 << len(all) {
		wanted := ""
		for i := range len(all) {
			if set>>i&1 == 1 {
				wanted += all[i : i+1]
			}
		}
		s := letterShelf(t, 5, all)
		wantPruned(t, wanted, s, only(wanted), len(all)-len(wanted), asked, wanted)
		for i := range len(all) {
			if strings.Contains(wanted, all[i:i+1]) {
				wantGot(t, s, all[i:i+1], i+1)
			} else {
				wantNothing(t, s, all[i:i+1])
			}
		}
		room := api.OK
		if len(wanted) == len(all) {
			room = api.ErrShelfFull
		}
		wantErrno(t, wanted, s.Put("x", 7), room)
	}
}

// TestPruneInOrder is S5: they are asked in the order of coming, a thing that was put in another's place in that one's.
func TestPruneInOrder(t *testing.T) {
	s := letterShelf(t, 5, "abcd")
	s.Drop("b")
	s.Put("b", 20)
	s.Put("a", 10)
	s.Drop("c")
	wantPruned(t, "in order", s, only("abcd"), 0, "a10 d4 b20", "adb")
	wantPruned(t, "by what is under them", s, func(_ string, v int) bool { return v != 4 }, 1, "a10 d4 b20", "ab")
}

// TestPruneNothingBeforeAllAreAsked is S5: while keep is asked, all are there still.
func TestPruneNothingBeforeAllAreAsked(t *testing.T) {
	s := letterShelf(t, 4, "abcd")
	wantPruned(t, "all go", s, func(k string, v int) bool {
		wantLetters(t, "while it is asked", s, "abcd")
		wantGot(t, s, "a", 1)
		wantGot(t, s, "d", 4)
		wantErrno(t, "there is no room yet", s.Put("e", 5), api.ErrShelfFull)
		return false
	}, 4, "a1 b2 c3 d4", "")
}

// TestPrunePutElsewhere is S5: what keep puts under a new key is not asked about, and stays.
func TestPrunePutElsewhere(t *testing.T) {
	s := letterShelf(t, 9, "abc")
	wantPruned(t, "one each", s, func(k string, v int) bool {
		wantErrno(t, "Put", s.Put(strings.ToUpper(k), -v), api.OK)
		return k == "b"
	}, 2, "a1 b2 c3", "bABC")
	wantGot(t, s, "A", -1)
	wantPruned(t, "asked the next time", s, only(""), 4, "b2 A-1 B-2 C-3", "")
}

// TestPrunePutThere is S5: what keep puts under a key that is there is not asked about; what stands under one that was not wanted goes, whatever it is.
func TestPrunePutThere(t *testing.T) {
	for _, when := range []string{"a", "b", "c"} {
		for _, wanted := range []string{"", "a", "b", "c", "ab", "ac", "bc", "abc"} {
			s := letterShelf(t, 3, "abc")
			wantPruned(t, when+wanted, s, func(k string, _ int) bool {
				if k == when {
					wantErrno(t, "Put", s.Put("b", 22), api.OK)
				}
				return strings.Contains(wanted, k)
			}, 3-len(wanted), "a1 b2 c3", wanted)
			if strings.Contains(wanted, "b") {
				wantGot(t, s, "b", 22)
			} else {
				wantNothing(t, s, "b")
			}
		}
	}
}

// TestPruneDropped is S5: what keep drops is asked about as it was, and is not counted.
func TestPruneDropped(t *testing.T) {
	for _, when := range []string{"a", "b", "c"} {
		for _, wanted := range []string{"", "a", "b", "c", "ab", "ac", "bc", "abc"} {
			s := letterShelf(t, 3, "abc")
			left := strings.ReplaceAll(wanted, "b", "")
			wantPruned(t, when+wanted, s, func(k string, _ int) bool {
				if k == when {
					wantErrno(t, "Drop", s.Drop("b"), api.OK)
				}
				return strings.Contains(wanted, k)
			}, 2-len(left), "a1 b2 c3", left)
		}
	}
}

// TestPruneDroppedAndPutAgain is S5: it is the last one then, and goes if it was not wanted.
func TestPruneDroppedAndPutAgain(t *testing.T) {
	for _, when := range []string{"a", "b", "c"} {
		for _, wanted := range []string{"", "a", "b", "c", "ab", "ac", "bc", "abc"} {
			s := letterShelf(t, 3, "abc")
			left := strings.ReplaceAll(wanted, "b", "")
			if strings.Contains(wanted, "b") {
				left += "b"
			}
			wantPruned(t, when+wanted, s, func(k string, _ int) bool {
				if k == when {
					wantErrno(t, "Drop", s.Drop("b"), api.OK)
					wantErrno(t, "Put", s.Put("b", 22), api.OK)
				}
				return strings.Contains(wanted, k)
			}, 3-len(left), "a1 b2 c3", left)
		}
	}
}

// TestPruneSwapped: keep drops all and puts others there, as many as may be.
func TestPruneSwapped(t *testing.T) {
	s := letterShelf(t, 3, "abc")
	wantPruned(t, "others", s, func(k string, _ int) bool {
		for _, old := range s.Keys() {
			s.Drop(old)
		}
		s.Put("x", 1)
		s.Put("c", 9)
		s.Put("y", 2)
		return false
	}, 1, "a1 b2 c3", "xy")
}

// TestPruneWithin is S5: keep may prune, too; each is asked of what was there when it was called.
func TestPruneWithin(t *testing.T) {
	s := letterShelf(t, 4, "abcd")
	inner := ""
	wantPruned(t, "outer", s, func(k string, _ int) bool {
		if k == "b" {
			n, asked := pruned(s, only("bd"))
			inner = strconv.Itoa(n) + ": " + asked
			s.Put("e", 5)
		}
		return k != "a" && k != "d"
	}, 1, "a1 b2 c3 d4", "be")
	if inner != "2: a1 b2 c3 d4" {
		t.Errorf("inner: %s", inner)
	}
}

// TestPruneOtherShelf: keep may do with another shelf whatever it does.
func TestPruneOtherShelf(t *testing.T) {
	s, other := letterShelf(t, 3, "abc"), letterShelf(t, 3, "bcd")
	wantPruned(t, "the one", s, func(k string, _ int) bool {
		other.Drop(k)
		_, is := other.Get("c")
		return is
	}, 1, "a1 b2 c3", "ab")
	wantLetters(t, "the other", other, "d")
}

// TestPruneTwice: the second time nothing is left to go.
func TestPruneTwice(t *testing.T) {
	s := letterShelf(t, 5, "abcde")
	wantPruned(t, "once", s, only("bd"), 3, "a1 b2 c3 d4 e5", "bd")
	wantPruned(t, "twice", s, only("bd"), 0, "b2 d4", "bd")
}

// TestPrunePanics: keep's panic comes through, and nothing is taken away, as not all were asked; the shelf goes on.
func TestPrunePanics(t *testing.T) {
	for _, at := range []string{"a", "c", "d"} {
		s := letterShelf(t, 5, "abcd")
		var asked []string
		told := func() (told any) {
			defer func() { told = recover() }()
			s.Prune(func(k string, _ int) bool {
				asked = append(asked, k)
				if k == at {
					panic("keep's own")
				}
				return false
			})
			return nil
		}()
		if told != "keep's own" || !slices.Equal(asked, split("abcd"[:strings.Index("abcd", at)+1])) {
			t.Errorf("%v; asked were %v", told, asked)
		}
		wantLetters(t, "panicked", s, "abcd")
		wantErrno(t, "Put", s.Put("e", 5), api.OK)
		wantErrno(t, "Drop", s.Drop("a"), api.OK)
		wantPruned(t, "pruned again", s, only("be"), 2, "b2 c3 d4 e5", "be")
	}
}

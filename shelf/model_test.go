package shelf_test

import (
	"slices"

	"callbox/api"
	"callbox/shelf"
)

type pair struct{ key, value int }

// plain is the theorem's plain list of pairs, gone through from its first one whatever is asked.
type plain struct {
	most int
	list []pair
}

func (p *plain) place(k int) int {
	return slices.IndexFunc(p.list, func(x pair) bool { return x.key == k })
}

func (p *plain) put(k, v int) api.Errno {
	if i := p.place(k); i >= 0 {
		p.list[i].value = v
		return api.OK
	}
	if len(p.list) == p.most {
		return api.ErrShelfFull
	}
	p.list = append(p.list, pair{k, v})
	return api.OK
}

func (p *plain) get(k int) (int, bool) {
	if i := p.place(k); i >= 0 {
		return p.list[i].value, true
	}
	return 0, false
}

func (p *plain) drop(k int) api.Errno {
	i := p.place(k)
	if i < 0 {
		return api.ErrShelfNone
	}
	p.list = slices.Delete(p.list, i, i+1)
	return api.OK
}

func (p *plain) prune(keep func(k, v int) bool) int {
	unwanted := map[int]bool{}
	for _, x := range slices.Clone(p.list) {
		if !keep(x.key, x.value) {
			unwanted[x.key] = true
		}
	}
	before := len(p.list)
	p.list = slices.DeleteFunc(p.list, func(x pair) bool { return unwanted[x.key] })
	return before - len(p.list)
}

// face is what a shelf and the plain list have in common.
type face struct {
	put   func(k, v int) api.Errno
	drop  func(k int) api.Errno
	prune func(keep func(k, v int) bool) int
}

func faceOf(s *shelf.Shelf[int, int]) face { return face{s.Put, s.Drop, s.Prune} }

func plainFace(p *plain) face { return face{p.put, p.drop, p.prune} }

// The kinds of steps.
const (
	puts = iota
	drops
	prunes
	kinds
)

// step is a call; one that prunes answers of each key by the bits of wanted, and plays its inner steps, by turns, whenever it is asked.
type step struct {
	kind, k, v int
	wanted     uint
	inner      []step
}

// play makes the call: what it answers, and what it is asked, as numbers.
func (s step) play(f face) []int {
	switch s.kind {
	case puts:
		return []int{int(f.put(s.k, s.v))}
	case drops:
		return []int{int(f.drop(s.k))}
	}
	var told []int
	turn := 0
	n := f.prune(func(k, v int) bool {
		told = append(told, k, v)
		if len(s.inner) > 0 {
			told = append(told, s.inner[turn%len(s.inner)].play(f)...)
			turn++
		}
		return s.wanted>>(uint(k)%64)&1 == 1
	})
	return append(told, n)
}

// playBoth makes the call with both: what is wrong with the shelf.
func (s step) playBoth(x *shelf.Shelf[int, int], p *plain) string {
	if got, want := s.play(faceOf(x)), s.play(plainFace(p)); !slices.Equal(got, want) {
		return "it answers otherwise"
	}
	return standsWrong(x, p)
}

// standsWrong is what is wrong with a shelf, held against the plain list and against S6's words.
func standsWrong(x *shelf.Shelf[int, int], p *plain) string {
	keys := x.Keys()
	if len(keys) != len(p.list) || x.Len() != len(keys) {
		return "there are more, or fewer"
	}
	if len(keys) > p.most {
		return "there are more than may be"
	}
	for i, k := range keys {
		if k != p.list[i].key {
			return "the keys are others, or stand in another order"
		}
		if slices.Index(keys, k) != i {
			return "a key stands twice"
		}
	}
	for k := range 20 {
		v, is := x.Get(k)
		w, has := p.get(k)
		if v != w || is != has {
			return "something else stands under a key"
		}
	}
	return ""
}

package cache_test

import (
	"fmt"
	"strings"

	"callbox/api"
	"callbox/cache"
)

type identity struct {
	who      api.Who
	sequence int
}

// told is a call of which CacheNew was said, ever; it is never taken out.
type told struct {
	id       identity
	answered bool
	reply    string
}

// said is a water that a client said from when on it was known.
type said struct {
	who   api.Who
	water int
}

// history tells everything from all that ever was: a client is one that said a water, its water is the greatest one, and its entries are those that were new and are not below that.
type history struct {
	config api.CacheConfig
	told   []told
	said   []said
}

func (h *history) water(who api.Who) int {
	most := 0
	for _, s := range h.said {
		if s.who == who {
			most = max(most, s.water)
		}
	}
	return most
}

func (h *history) clients() int {
	seen := map[api.Who]bool{}
	for _, s := range h.said {
		seen[s.who] = true
	}
	return len(seen)
}

func (h *history) alive(i int) bool {
	return h.told[i].id.sequence >= h.water(h.told[i].id.who)
}

// entries and bytes, of one client, or of all, if it is nobody.
func (h *history) entries(who api.Who) (int, int) {
	n, bytes := 0, 0
	for i, x := range h.told {
		if !h.alive(i) || who != (api.Who{}) && x.id.who != who {
			continue
		}
		n++
		if x.answered {
			bytes += len(x.reply)
		} else {
			bytes += h.config.Reserve
		}
	}
	return n, bytes
}

func (h *history) find(id identity) int {
	for i, x := range h.told {
		if x.id == id && h.alive(i) {
			return i
		}
	}
	return -1
}

func wordFromOne(n int) bool { return n != 0 && n == int(uint32(n)) }

func (h *history) ask(who api.Who, sequence, water int) (int, string) {
	if who.Address>>24 != 0 || who.Address == 0 || who.Instance <= 0 || uint64(who.Instance)-1 >= 1<<62 || !wordFromOne(sequence) || !wordFromOne(water) {
		return api.CacheOld, ""
	}
	known := h.water(who) > 0
	if known {
		h.said = append(h.said, said{who, water})
	}
	if sequence < max(water, h.water(who)) && !known || sequence < h.water(who) {
		return api.CacheOld, ""
	}
	if i := h.find(identity{who, sequence}); i >= 0 {
		if h.told[i].answered {
			return api.CacheDone, h.told[i].reply
		}
		return api.CacheBusy, ""
	}
	n, _ := h.entries(who)
	_, bytes := h.entries(api.Who{})
	if known && n == h.config.Entries || !known && h.clients() == h.config.Clients || bytes > h.config.Bytes-h.config.Reserve {
		return api.CacheFull, ""
	}
	if !known {
		h.said = append(h.said, said{who, water})
	}
	h.told = append(h.told, told{id: identity{who, sequence}})
	return api.CacheNew, ""
}

func (h *history) busy(who api.Who, sequence int) bool {
	i := h.find(identity{who, sequence})
	return i >= 0 && !h.told[i].answered
}

func (h *history) done(who api.Who, sequence int, reply string) api.Errno {
	switch {
	case !h.busy(who, sequence):
		return api.ErrCacheNone
	case len(reply) > h.config.Reserve:
		return api.ErrCacheLong
	}
	i := h.find(identity{who, sequence})
	h.told[i].answered, h.told[i].reply = true, reply
	return api.OK
}

// step is a call of Ask, or of Done.
type step struct {
	asks            bool
	who             api.Who
	sequence, water int
	reply           string
}

// pair is a cache, the history that it must agree with, and what Q6 must know of the steps ahead.
type pair struct {
	cache   *cache.Cache
	history *history
	news    map[identity]int
	whos    map[api.Who]int
	clients int
}

func newPair(config api.CacheConfig) (*pair, api.Errno) {
	c, e := cache.New(config)
	return &pair{cache: c, history: &history{config: config}, news: map[identity]int{}, whos: map[api.Who]int{}}, e
}

// play makes the call with both: what is wrong with the cache.
func (p *pair) play(s step) string {
	if _, is := p.whos[s.who]; !is {
		p.whos[s.who] = 0
	}
	if !s.asks {
		if got, want := p.cache.Done(s.who, s.sequence, s.reply), p.history.done(s.who, s.sequence, s.reply); got != want {
			return fmt.Sprintf("Done: %d, not %d", got, want)
		}
		return p.standsWrong(s)
	}
	kind, reply := p.cache.Ask(s.who, s.sequence, s.water)
	if wanted, text := p.history.ask(s.who, s.sequence, s.water); kind != wanted || reply != text {
		return fmt.Sprintf("Ask: %d, %q, not %d, %q", kind, reply, wanted, text)
	}
	if kind == api.CacheNew {
		id := identity{s.who, s.sequence}
		if p.news[id]++; p.news[id] > 1 {
			return "it is new twice"
		}
	}
	return p.standsWrong(s)
}

// standsWrong is what is wrong with a cache, held against the history and against Q6's words.
func (p *pair) standsWrong(s step) string {
	c, h := p.cache, p.history
	n, bytes := h.entries(api.Who{})
	if c.Clients() != h.clients() || c.Entries() != n || c.Bytes() != bytes {
		return fmt.Sprintf("it has %d, %d, %d, not %d, %d, %d", c.Clients(), c.Entries(), c.Bytes(), h.clients(), n, bytes)
	}
	if c.Clients() < p.clients || c.Clients() > h.config.Clients || c.Bytes() > h.config.Bytes {
		return "it has fewer clients, or more of something than may be"
	}
	p.clients = c.Clients()
	for who, water := range p.whos {
		if c.Water(who) != h.water(who) || c.Water(who) < water {
			return "a water is another one, or falls"
		}
		p.whos[who] = c.Water(who)
		if n, _ := h.entries(who); n > h.config.Entries {
			return "a client has more entries than may be"
		}
	}
	for who := range p.whos {
		for sequence := s.sequence - 2; sequence <= s.sequence+2; sequence++ {
			if c.Busy(who, sequence) != h.busy(who, sequence) {
				return fmt.Sprintf("Busy(%v, %d)", who, sequence)
			}
		}
	}
	return ""
}

func (s step) String() string {
	if s.asks {
		return fmt.Sprintf("Ask(%v, %d, %d)", s.who, s.sequence, s.water)
	}
	return fmt.Sprintf("Done(%v, %d, %d bytes)", s.who, s.sequence, len(s.reply))
}

func replyOf(n int) string { return strings.Repeat("r", n) }

package cache_test

import (
	"math"
	"math/rand"
	"strconv"
	"strings"
	"testing"

	"callbox/api"
)

// wantAsHistory plays steps with a cache and with all that ever was.
func wantAsHistory(t *testing.T, config api.CacheConfig, steps []step) {
	t.Helper()
	p, e := newPair(config)
	wantErrno(t, "New", e, api.OK)
	for i, s := range steps {
		if wrong := p.play(s); wrong != "" {
			t.Fatalf("%v, at the step %d of %v: %s", config, i, steps, wrong)
		}
	}
}

// TestAllShortRuns is Q2 to Q6: whatever three steps there are, of two clients and three sequences, from nothing on and behind a call that was answered, where room is short in each way.
func TestAllShortRuns(t *testing.T) {
	var each []step
	for _, who := range []api.Who{ann, cat} {
		for sequence := 1; sequence <= 3; sequence++ {
			for water := 1; water <= 3; water++ {
				each = append(each, step{asks: true, who: who, sequence: sequence, water: water})
			}
			each = append(each, step{who: who, sequence: sequence, reply: replyOf(40)})
		}
	}
	configs := []api.CacheConfig{
		{Clients: 1, Entries: 2, Bytes: 200, Reserve: 64},
		{Clients: 2, Entries: 1, Bytes: 200, Reserve: 64},
		{Clients: 2, Entries: 3, Bytes: 64 + 40, Reserve: 64},
		{Clients: 2, Entries: 3, Bytes: 1 << 20, Reserve: 64},
	}
	var run func(config api.CacheConfig, steps []step, left int)
	run = func(config api.CacheConfig, steps []step, left int) {
		if left == 0 {
			wantAsHistory(t, config, steps)
			return
		}
		for _, s := range each {
			run(config, append(steps, s), left-1)
		}
	}
	for _, config := range configs {
		run(config, make([]step, 0, 3), 3)
		run(config, append(make([]step, 0, 5), each[0], each[3]), 3)
	}
}

func pick(r *rand.Rand, numbers ...int) int { return numbers[r.Intn(len(numbers))] }

func makeConfig(r *rand.Rand) api.CacheConfig {
	reserve := 64 + r.Intn(3)*pick(r, 1, 40, 518)
	return api.CacheConfig{Clients: 1 + r.Intn(4), Entries: 1 + r.Intn(6), Bytes: reserve*(1+r.Intn(9)) + r.Intn(reserve), Reserve: reserve}
}

// makeStep is mostly of few clients, and near a sequence that rises with the steps.
func makeStep(r *rand.Rand, clients, near, reserve int) step {
	s := step{asks: r.Intn(3) > 0, who: api.Who{Address: 1 + r.Intn(clients), Instance: 1 + r.Intn(8)/7}, sequence: max(1, near+r.Intn(5)-2)}
	s.water = max(1, near-pick(r, 4, 3, 3, 2, 2, 1, 0, -1))
	s.reply = replyOf(pick(r, 0, 1, r.Intn(reserve), reserve, reserve, reserve+1))
	switch r.Intn(40) {
	case 0:
		s.who.Address = pick(r, 0, -1, 1<<24, math.MaxInt, 1<<24-1)
	case 1:
		s.who.Instance = pick(r, 0, -1, 1<<62+1, math.MinInt, 1<<62)
	case 2:
		s.sequence = pick(r, 0, -1, 1<<32, 1<<32+1, math.MaxInt)
	case 3:
		s.water = pick(r, 0, -1, 1<<32, 1<<32+1, math.MinInt)
	}
	return s
}

// TestLongRuns is Q2 to Q6: after each of many steps, what all that ever was says.
func TestLongRuns(t *testing.T) {
	r := rand.New(rand.NewSource(15))
	for range 300 {
		config := makeConfig(r)
		clients := 1 + r.Intn(3)
		first := pick(r, 1, 1, 5000, 1<<32-8)
		var steps []step
		for n := range 120 {
			steps = append(steps, makeStep(r, clients, first+n/10, config.Reserve))
		}
		wantAsHistory(t, config, steps)
	}
}

// TestRunsSeeAll: runs as those above come to whatever may be told, often.
func TestRunsSeeAll(t *testing.T) {
	r := rand.New(rand.NewSource(16))
	seen := map[int]int{}
	for range 100 {
		config := makeConfig(r)
		p, _ := newPair(config)
		for n := range 120 {
			s := makeStep(r, 2, 1+n/10, config.Reserve)
			if s.asks {
				kind, _ := p.cache.Ask(s.who, s.sequence, s.water)
				seen[kind]++
			} else {
				seen[100+int(p.cache.Done(s.who, s.sequence, s.reply))]++
			}
		}
	}
	for _, kind := range []int{api.CacheNew, api.CacheBusy, api.CacheDone, api.CacheOld, api.CacheFull, 100, 100 + int(api.ErrCacheNone), 100 + int(api.ErrCacheLong)} {
		if seen[kind] < 20 {
			t.Errorf("%d is seen %d times only", kind, seen[kind])
		}
	}
}

// sender is a client as DOC.md has it: it may send each of its calls again that has no outcome, and says no water above one that it may send still.
type sender struct {
	who        api.Who
	open       []int
	next, most int
}

func (s *sender) water() int {
	least := s.next
	for _, n := range s.open {
		least = min(least, n)
	}
	return least
}

// send is one of its calls, an old or a new one.
func (s *sender) send(r *rand.Rand) step {
	if w := s.water(); len(s.open) == 0 || s.next < w+s.most && r.Intn(2) == 0 {
		s.open = append(s.open, s.next)
		s.next++
	}
	return step{asks: true, who: s.who, sequence: s.open[r.Intn(len(s.open))], water: s.water()}
}

// forget: one of its calls has its outcome.
func (s *sender) forget(r *rand.Rand) {
	if len(s.open) > 0 {
		i := r.Intn(len(s.open))
		s.open = append(s.open[:i], s.open[i+1:]...)
	}
}

// TestNoneIsFull is Q6's last word: where there are bytes enough and clients keep to their windows, whatever is late, lost or doubled, none that is known is refused.
func TestNoneIsFull(t *testing.T) {
	r := rand.New(rand.NewSource(17))
	for range 100 {
		config := api.CacheConfig{Clients: 1 + r.Intn(4), Entries: 1 + r.Intn(8), Reserve: 64 + r.Intn(100)}
		config.Bytes = config.Clients * config.Entries * config.Reserve
		p, e := newPair(config)
		wantErrno(t, "New", e, api.OK)
		var senders []*sender
		for n := range config.Clients {
			senders = append(senders, &sender{who: api.Who{Address: 1 + n, Instance: 1}, next: pick(r, 1, 100, 1<<31), most: config.Entries})
		}
		var late []step
		for range 200 {
			s := senders[r.Intn(len(senders))]
			late = append(late, s.send(r))
			if r.Intn(3) == 0 {
				s.forget(r)
			}
			x := late[max(0, len(late)-1-r.Intn(20))]
			known := p.cache.Water(x.who) > 0
			kind, _ := p.cache.Ask(x.who, x.sequence, x.water)
			if kind == api.CacheFull && (known || p.cache.Clients() < config.Clients) {
				t.Fatalf("%v: %v: full", config, x)
			}
			if kind == api.CacheNew && r.Intn(2) == 0 {
				wantDone(t, p.cache, x.who, x.sequence, replyOf(config.Reserve), api.OK)
			}
		}
	}
}

// TestOnce is Q6, and what a server leans on: whatever comes late, or again, is new once, and has one answer for ever.
func TestOnce(t *testing.T) {
	r := rand.New(rand.NewSource(18))
	for range 100 {
		c := cacheFor(t, 3, 4, 5000, 64)
		news, answers := map[identity]int{}, map[identity]string{}
		for n := range 300 {
			s := makeStep(r, 2, 1+n/8, 64)
			id := identity{s.who, s.sequence}
			switch kind, reply := c.Ask(s.who, s.sequence, s.water); kind {
			case api.CacheNew:
				news[id]++
			case api.CacheDone:
				if reply != answers[id] {
					t.Fatalf("%v: %q, not %q", s, reply, answers[id])
				}
			}
			if answer := strconv.Itoa(n); c.Busy(s.who, s.sequence) && r.Intn(2) == 0 {
				wantDone(t, c, s.who, s.sequence, answer, api.OK)
				answers[id] = answer
			}
			if news[id] > 1 {
				t.Fatalf("%v: new %d times", s, news[id])
			}
		}
	}
}

// FuzzSteps takes four bytes for each step, behind four for the config: whether it asks, and who; the sequence; the water; how long the answer is.
func FuzzSteps(f *testing.F) {
	f.Add("\x01\x02\x02\x00" + "\x01\x01\x01\x00" + "\x00\x01\x00\x04" + "\x01\x02\x01\x00" + "\x01\x03\x02\x00" + "\x01\x09\x0a\x00")
	f.Add("\x02\x03\x00\x09" + strings.Repeat("\x03\x05\x04\x00\x02\x05\x00\x40\x05\x05\x05\x00", 3))
	f.Fuzz(func(t *testing.T, text string) {
		if len(text) < 4 {
			return
		}
		config := api.CacheConfig{Clients: 1 + int(text[0])%4, Entries: 1 + int(text[1])%6, Reserve: 64 + int(text[3])%3}
		config.Bytes = config.Reserve + 40*int(text[2])
		var steps []step
		for i := 4; i+3 < len(text) && len(steps) < 100; i += 4 {
			a := int(text[i])
			steps = append(steps, step{asks: a&1 == 1, who: api.Who{Address: 1 + a>>1&3, Instance: a >> 3 & 3}, sequence: int(text[i+1]), water: int(text[i+2]), reply: replyOf(int(text[i+3]))})
		}
		wantAsHistory(t, config, steps)
	})
}

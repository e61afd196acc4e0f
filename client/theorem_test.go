package client_test

import (
	"math"
	"math/rand"
	"strings"
	"testing"

	"callbox/api"
	"callbox/client"
	"callbox/message"
)

// watch notes what a client answers, and holds it against C7's words, without the model.
type watch struct {
	config   api.ClientConfig
	patience int // the sum of all waits
	at       map[int]int
	sent     map[int]int
	outcomes map[int]api.Outcome
	water    int
	said     int // the greatest water that a request said
	last     int // the greatest sequence that was given
}

func newWatch(config api.ClientConfig) *watch {
	w := &watch{config: config, at: map[int]int{}, sent: map[int]int{}, outcomes: map[int]api.Outcome{}, water: config.First, last: config.First - 1}
	for n := range config.Pace.Tries {
		w.patience += min(config.Pace.Base<<n, config.Pace.Cap)
	}
	return w
}

// sees takes what Due and Done answered, as things stand now.
func (w *watch) sees(t *testing.T, c *client.Client, due []api.Packet, done []api.Outcome) {
	t.Helper()
	for _, o := range done {
		if _, is := w.outcomes[o.Sequence]; is || o.At > w.at[o.Sequence]+w.patience || o.Status == api.OutTimeout && o.At != w.at[o.Sequence]+w.patience {
			t.Fatalf("an outcome that may not be: %v", o)
		}
		w.outcomes[o.Sequence] = o
	}
	for _, p := range due {
		r := readRequest(t, p)
		n := r.mark.Sequence
		w.sent[n]++
		w.said = max(w.said, r.mark.Water)
		if _, is := w.outcomes[n]; is || w.sent[n] > w.config.Pace.Tries || w.said > n {
			t.Fatalf("a request that may not be: %v, sent %d times, and the water %d was said", r, w.sent[n], w.said)
		}
	}
	if c.Water() < w.water || w.last-c.Water()+1 > w.config.Window {
		t.Fatalf("the water is %d behind %d, and %d was given", c.Water(), w.water, w.last)
	}
	w.water = c.Water()
}

// atTheEnd: each call has its outcome.
func (w *watch) atTheEnd(t *testing.T) {
	t.Helper()
	for n := range w.at {
		if _, is := w.outcomes[n]; !is {
			t.Fatalf("%d has no outcome", n)
		}
	}
}

// wantAsModel plays steps with a client and the model, till each call must have had its outcome.
func wantAsModel(t *testing.T, config api.ClientConfig, steps []step) {
	t.Helper()
	c := clientOf(t, config)
	m, w := newModel(config), newWatch(config)
	if wrong := standsWrong(c, m); wrong != "" {
		t.Fatalf("%v: a new one: %s", config, wrong)
	}
	for i, s := range steps {
		if wrong := s.play(c, m); wrong != "" {
			t.Fatalf("%v, at the step %d of %v: %s", config, i, steps, wrong)
		}
		for n := w.last + 1; n < m.next(); n++ {
			w.at[n], w.last = c.Now(), n
		}
		w.sees(t, c, nil, nil)
	}
}

// TestSeen is C7, by what is seen alone: steps as those of the model, with Due and Done asked for by the watch.
func TestSeen(t *testing.T) {
	r := rand.New(rand.NewSource(17))
	for range 300 {
		config := makeConfig(r)
		c, w := clientOf(t, config), newWatch(config)
		near := config.First
		for range 150 {
			switch s := makeStep(r, config, near); s.kind {
			case calls:
				if n, e := c.Call(s.to, s.prog, s.vers, s.proc, s.args); e == api.OK {
					w.at[n], w.last, near = c.Now(), n, n
				}
			case ticks:
				c.Tick()
			case hears:
				c.Hear(s.packet)
			case dues:
				due := c.Due()
				w.sees(t, c, due, c.Done())
			}
			w.sees(t, c, nil, c.Done())
		}
		for range w.patience {
			c.Tick()
			w.sees(t, c, c.Due(), c.Done())
		}
		w.atTheEnd(t)
	}
}

func pick(r *rand.Rand, numbers ...int) int { return numbers[r.Intn(len(numbers))] }

func makeConfig(r *rand.Rand) api.ClientConfig {
	base := 1 + r.Intn(4)
	config := api.ClientConfig{
		Address: pick(r, 1, home, 1<<24-1), Instance: pick(r, 1, 5, 1<<62), First: pick(r, 1, 1, 9, 1<<31, 1<<32-12),
		Window: pick(r, 1, 2, 3, 5, 64), Pace: api.Pace{Base: base, Cap: base + r.Intn(12), Tries: 1 + r.Intn(6)},
	}
	if r.Intn(2) == 0 {
		config.Sys = api.Sys{Stamp: r.Intn(1 << 32), Machine: strings.Repeat("m", r.Intn(10)), User: r.Intn(9), Group: r.Intn(1 << 32), Groups: make([]int, r.Intn(5))}
	}
	return config
}

// makeStep is mostly of few servers, with replies to sequences near one.
func makeStep(r *rand.Rand, config api.ClientConfig, near int) step {
	s := step{kind: pick(r, calls, dues, ticks, hears, hears, dones), to: 100 + r.Intn(2), prog: r.Intn(3), vers: r.Intn(3), proc: r.Intn(3), args: strings.Repeat("abcd", r.Intn(3))}
	switch {
	case s.kind == calls && r.Intn(8) == 0:
		spoilCall(r, &s)
	case s.kind == hears:
		s.packet = makeReply(r, config, near)
	}
	return s
}

func spoilCall(r *rand.Rand, s *step) {
	wrong := pick(r, -1, 1<<32, 1<<32+1, math.MaxInt, math.MinInt)
	switch r.Intn(5) {
	case 0:
		s.to = pick(r, 0, 1<<24, wrong)
	case 1:
		s.prog = wrong
	case 2:
		s.vers = wrong
	case 3:
		s.proc = wrong
	case 4:
		s.args = strings.Repeat("a", pick(r, 1, 2, 3, 5, 999, 1001, 1004))
	}
}

func makeReply(r *rand.Rand, config api.ClientConfig, near int) api.Packet {
	all := []api.Reply{
		{}, {Results: "wxyz"}, {Verf: api.Auth{Flavor: 1, Body: "ab"}}, {Accept: 1}, {Accept: 2, Low: 2, High: 4}, {Accept: 3}, {Accept: 4}, {Accept: 5},
		{Denied: true}, {Denied: true, Low: 1, High: 3}, {Denied: true, Reject: 1, Why: 5},
	}
	x := all[r.Intn(len(all))]
	x.Xid = min(max(0, near+1-r.Intn(5)), 1<<32-1)
	data, _ := message.PrintReply(x)
	p := api.Packet{From: 100 + r.Intn(2), To: config.Address, Data: data}
	switch r.Intn(16) {
	case 0:
		p.From = pick(r, 0, 99, config.Address, math.MaxInt)
	case 1:
		p.To = pick(r, 0, 100, config.Address+1, math.MinInt)
	case 2:
		p.Data = data[:r.Intn(len(data))]
	case 3:
		i := r.Intn(len(data))
		p.Data = data[:i] + string([]byte{byte(r.Intn(256))}) + data[i+1:]
	}
	return p
}

// TestLongRuns is C1 to C6: after each of many steps, what all that ever was says.
func TestLongRuns(t *testing.T) {
	r := rand.New(rand.NewSource(18))
	for range 400 {
		config := makeConfig(r)
		near := config.First
		var steps []step
		for n := range 150 {
			steps = append(steps, makeStep(r, config, near+n/(4+r.Intn(10))))
		}
		wantAsModel(t, config, steps)
	}
}

// TestRunsSeeAll: runs as those above come to whatever may be told, often.
func TestRunsSeeAll(t *testing.T) {
	r := rand.New(rand.NewSource(19))
	refusals, statuses := map[api.Errno]int{}, map[int]int{}
	given, heard := map[int]int{}, map[bool]int{}
	for range 200 {
		config := makeConfig(r)
		c := clientOf(t, config)
		near := config.First
		for range 150 {
			switch s := makeStep(r, config, near); s.kind {
			case calls:
				n, e := c.Call(s.to, s.prog, s.vers, s.proc, s.args)
				refusals[e]++
				near = max(near, n)
			case dues:
				given[min(2, len(c.Due()))]++
			case ticks:
				c.Tick()
			case hears:
				heard[c.Hear(s.packet) > 0]++
			}
			for _, o := range c.Done() {
				statuses[o.Status]++
			}
		}
	}
	for _, e := range []api.Errno{api.OK, api.ErrArg, api.ErrClientLong, api.ErrClientWindow, api.ErrClientWorn} {
		if refusals[e] < 20 {
			t.Errorf("the error %d is seen %d times only", e, refusals[e])
		}
	}
	for status := api.OutSuccess; status <= api.OutDenied; status++ {
		if statuses[status] < 20 {
			t.Errorf("the status %d is seen %d times only", status, statuses[status])
		}
	}
	if given[0] < 20 || given[1] < 20 || given[2] < 20 || heard[true] < 20 || heard[false] < 20 {
		t.Errorf("given: %v, heard: %v", given, heard)
	}
}

// TestAllShortRuns: whatever four steps there are, of few kinds, from nothing on and behind two calls.
func TestAllShortRuns(t *testing.T) {
	config := api.ClientConfig{Address: home, Instance: 5, First: 9, Window: 2, Pace: api.Pace{Base: 1, Cap: 2, Tries: 2}}
	each := []step{
		{kind: calls, to: there}, {kind: calls, to: there + 1, args: "abcd"}, {kind: calls, to: 0}, {kind: dues}, {kind: ticks}, {kind: dones},
		{kind: hears, packet: success(t, 9)}, {kind: hears, packet: success(t, 10)},
		{kind: hears, packet: replyFrom(t, there+1, api.Reply{Xid: 10, Accept: 5})},
	}
	var run func(steps []step, left int)
	run = func(steps []step, left int) {
		if left == 0 {
			wantAsModel(t, config, steps)
			return
		}
		for _, s := range each {
			run(append(steps, s), left-1)
		}
	}
	run(make([]step, 0, 4), 4)
	run(append(make([]step, 0, 9), each[0], each[3], each[4], each[1]), 4)
}

// TestAllPaces: of all small paces, when requests are given, and when a call ends, if Due is asked at each time, and at some.
func TestAllPaces(t *testing.T) {
	for base := 1; base <= 4; base++ {
		for top := base; top <= 10; top++ {
			for tries := 1; tries <= 6; tries++ {
				config := exampleConfig()
				config.Pace = api.Pace{Base: base, Cap: top, Tries: tries}
				for every := 1; every <= 4; every++ {
					steps := []step{{kind: calls, to: there}}
					for n := range 65 {
						if n%every == every-1 {
							steps = append(steps, step{kind: dues})
						}
						steps = append(steps, step{kind: ticks})
					}
					wantAsModel(t, config, append(steps, step{kind: dones}))
				}
			}
		}
	}
}

// FuzzSteps takes three bytes for each step, behind four for the config: its kind, a server or a reply's Accept, a sequence.
func FuzzSteps(f *testing.F) {
	f.Add("\x02\x01\x05\x03" + "\x00\x00\x00" + "\x01\x00\x00" + "\x02\x00\x00" + "\x03\x00\x09" + "\x04\x00\x00")
	f.Add("\x02\x01\x05\x03" + strings.Repeat("\x00\x01\x00\x02\x00\x00\x01\x00\x00\x03\x05\x09\x03\x02\x0a", 4))
	f.Fuzz(func(t *testing.T, text string) {
		if len(text) < 4 {
			return
		}
		config := exampleConfig()
		config.Window = 1 + int(text[0])%5
		config.Pace = api.Pace{Base: 1 + int(text[1])%4, Cap: 4 + int(text[2])%9, Tries: 1 + int(text[3])%5}
		var steps []step
		for i := 4; i+2 < len(text) && len(steps) < 150; i += 3 {
			a := int(text[i+1])
			data, _ := message.PrintReply(api.Reply{Xid: int(text[i+2]), Accept: a >> 1 & 7})
			steps = append(steps, step{kind: int(text[i]) % kinds, to: there + a&1, proc: a >> 4, packet: api.Packet{From: there + a&1, To: home, Data: data}})
		}
		wantAsModel(t, config, steps)
	})
}

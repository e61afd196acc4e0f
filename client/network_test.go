package client_test

import (
	"math/rand"
	"testing"

	"callbox/air"
	"callbox/api"
	"callbox/cache"
	"callbox/client"
	"callbox/message"
)

// identity is whose call it is, and which.
type identity struct {
	who      api.Who
	sequence int
}

// network is clients, the air between, and a server of few words: it runs each call that its cache calls new at once, and answers with how many it has run.
type network struct {
	t       *testing.T
	r       *rand.Rand
	air     *air.Air
	clients []*client.Client
	watches []*watch
	cache   *cache.Cache
	run     map[identity]int    // as which one it was run
	told    map[identity]string // the results that came first, ahead of the call's end
}

func newNetwork(t *testing.T, r *rand.Rand) *network {
	n := &network{t: t, r: r, air: air.New(), run: map[identity]int{}, told: map[identity]string{}}
	many := 1 + r.Intn(3)
	window := 1 + r.Intn(6)
	for i := range many {
		config := api.ClientConfig{Address: 1000 + i, Instance: 1 + r.Intn(3), First: pick(r, 1, 77, 1<<32-30), Window: window, Pace: api.Pace{Base: 1 + r.Intn(4), Cap: 4 + r.Intn(12), Tries: 1 + r.Intn(5)}}
		n.clients, n.watches = append(n.clients, clientOf(t, config)), append(n.watches, newWatch(config))
	}
	c, e := cache.New(api.CacheConfig{Clients: many, Entries: window, Bytes: many * window * 64, Reserve: 64})
	if e != api.OK {
		t.Fatalf("cache.New: %d", e)
	}
	n.cache = c
	return n
}

func (n *network) send(all []api.Packet) {
	for _, p := range all {
		n.air.Send(p)
	}
}

// look sends what a client has due, and takes its outcomes.
func (n *network) look(i int) {
	c, w := n.clients[i], n.watches[i]
	due, done := c.Due(), c.Done()
	w.sees(n.t, c, due, done)
	n.send(due)
	for _, o := range done {
		id := n.identity(i, o.Sequence)
		results, is := n.told[id]
		if is != (o.Status == api.OutSuccess) || results != o.Results || is && results != words(n.run[id]) {
			n.t.Fatalf("%v: the outcome %v, where %q was told first, and %d was run", id, o, results, n.run[id])
		}
	}
}

func (n *network) identity(i, sequence int) identity {
	config := n.watches[i].config
	return identity{api.Who{Address: config.Address, Instance: config.Instance}, sequence}
}

// toServer: what the server answers, if anything.
func (n *network) toServer(p api.Packet) {
	r := readRequest(n.t, p)
	id := identity{api.Who{Address: p.From, Instance: r.mark.Instance}, r.mark.Sequence}
	kind, kept := n.cache.Ask(id.who, id.sequence, r.mark.Water)
	switch kind {
	case api.CacheFull:
		n.t.Fatalf("%v: no room, where there is for all that the windows let be", id)
	case api.CacheNew:
		if n.run[id] > 0 {
			n.t.Fatalf("%v: it is run twice", id)
		}
		n.run[id] = len(n.run) + 1
		kept, _ = message.PrintReply(api.Reply{Xid: r.call.Xid, Results: words(n.run[id])})
		n.cache.Done(id.who, id.sequence, kept)
	}
	if kept != "" {
		n.send([]api.Packet{{From: p.To, To: p.From, Data: kept}})
	}
}

func (n *network) deliver(p api.Packet) {
	i := p.To - 1000
	if i < 0 || i >= len(n.clients) {
		n.toServer(p)
		return
	}
	c, w := n.clients[i], n.watches[i]
	reply, _ := message.ParseReply(p.Data)
	id := n.identity(i, reply.Xid)
	_, before := n.told[id]
	inTime := c.Now() < w.at[reply.Xid]+w.patience
	if inTime && !before {
		n.told[id] = reply.Results
	}
	if got := c.Hear(p); (got == reply.Xid) != (inTime && !before) || got != reply.Xid && got != 0 {
		n.t.Fatalf("%v: Hear: %d, in time: %v, told before: %v", id, got, inTime, before)
	}
}

// step is whatever may happen next.
func (n *network) step() {
	flying := len(n.air.Flying())
	i := n.r.Intn(len(n.clients))
	switch n.r.Intn(12) {
	case 0, 1:
		if sequence, e := n.clients[i].Call(50+n.r.Intn(2), 7, 1, 2, ""); e == api.OK {
			n.watches[i].at[sequence], n.watches[i].last = n.clients[i].Now(), sequence
		}
	case 2:
		n.clients[i].Tick()
	case 3:
		n.air.Drop(n.r.Intn(flying + 1))
	case 4, 5:
		n.air.Double(n.r.Intn(flying + 1))
	case 6, 7, 8, 9:
		if p, e := n.air.Deliver(n.r.Intn(flying + 1)); e == api.OK {
			n.deliver(p)
		}
	default:
		n.look(i)
	}
}

// TestNetwork is DOC.md's P1, P5 and P6 for clients as these: whatever is lost, doubled and late, each call is run once at the most, and has in time the one outcome that the first reply says that came.
func TestNetwork(t *testing.T) {
	r := rand.New(rand.NewSource(20))
	successes, timeouts := 0, 0
	for range 200 {
		n := newNetwork(t, r)
		for range 400 {
			n.step()
		}
		for i, c := range n.clients {
			for range n.watches[i].patience {
				c.Tick()
			}
			n.look(i)
			n.watches[i].atTheEnd(t)
			for _, o := range n.watches[i].outcomes {
				if o.Status == api.OutSuccess {
					successes++
				} else {
					timeouts++
				}
			}
		}
	}
	if successes < 1000 || timeouts < 300 {
		t.Errorf("%d successes, %d timeouts", successes, timeouts)
	}
}

package portmap_test

import (
	"math/rand"
	"slices"
	"testing"

	"callbox/air"
	"callbox/api"
	"callbox/client"
	"callbox/portmap"
	"callbox/server"
	"callbox/service"
)

const (
	host        = 65536
	mapperPort  = 111
	firstPort   = 2000
	firstClient = 2 * host
)

// offer is a service at a port.
type offer struct{ prog, vers, port int }

// issue is a call as a client made it: of the mapper's procedures with a mapping, or of the procedure 1 of a service that a lookup has told.
type issue struct {
	proc   int
	x      api.Mapping
	called bool
	args   string
}

// who is an address, and a sequence.
type who struct{ address, sequence int }

// network is a mapper, servers, clients, and the air between.
type network struct {
	t       *testing.T
	r       *rand.Rand
	air     *air.Air
	servers map[int]*server.Server // by their ports
	offers  []offer
	clients []*client.Client
	issued  map[who]issue
	told    map[who]string
	set     map[api.Mapping]int // what Set was asked for
	count   map[string]int
}

func newNetwork(t *testing.T, r *rand.Rand, count map[string]int) *network {
	n := &network{t: t, r: r, air: air.New(), servers: map[int]*server.Server{}, issued: map[who]issue{}, told: map[who]string{}, set: map[api.Mapping]int{}, count: count}
	n.addServer(mapperPort)
	n.offer(mapperPort, portmap.New().Service())
	for i := range 3 {
		port := firstPort + i
		n.addServer(port)
		for range 3 {
			x := offer{r.Intn(3), 1 + r.Intn(2), port}
			if !slices.Contains(n.offers, x) {
				n.offers = append(n.offers, x)
				n.offer(port, service.Service{Prog: x.prog, Vers: x.vers, Procs: []int{1}, Handle: x.handle})
			}
		}
	}
	for i := range 3 {
		c, e := client.New(api.ClientConfig{Address: firstClient + i, Instance: 1, First: 1, Window: 4, Pace: api.Pace{Base: 2, Cap: 8, Tries: 4}})
		if e != api.OK {
			t.Fatalf("client.New: %d", e)
		}
		n.clients = append(n.clients, c)
	}
	return n
}

func (n *network) addServer(port int) {
	s, e := server.New(api.ServerConfig{Address: host + port, Cache: api.CacheConfig{Clients: 3, Entries: 6, Bytes: 1 << 16, Reserve: 800}})
	if e != api.OK {
		n.t.Fatalf("server.New: %d", e)
	}
	n.servers[port] = s
}

func (n *network) offer(port int, s service.Service) {
	if e := n.servers[port].Offer(s); e != api.OK {
		n.t.Fatalf("Offer: %d", e)
	}
}

// handle tells which service it is, and what it was called with.
func (x offer) handle(_ int, args string) (int, string) {
	return api.Success, x.answer(args)
}

func (x offer) answer(args string) string {
	return four(x.prog) + four(x.vers) + four(x.port) + args
}

func (n *network) send(all []api.Packet) {
	for _, p := range all {
		n.air.Send(p)
	}
}

// ask makes a client ask the mapper. Only what is offered at a port is set there.
func (n *network) ask(i int) {
	o := n.offers[n.r.Intn(len(n.offers))]
	x := issue{proc: pick(n.r, 1, 1, 1, 2, 3, 3, 3, 3, 4), x: mapping(o.prog, o.vers, pick(n.r, 6, 17, 17), o.port)}
	args, e := portmap.Args(x.x)
	if e != api.OK {
		n.t.Fatalf("Args: %d", e)
	}
	if x.proc == 4 {
		args = ""
	}
	if sequence, e := n.clients[i].Call(host+mapperPort, 100000, 2, x.proc, args); e == api.OK {
		n.issued[who{firstClient + i, sequence}] = x
		if x.proc == 1 {
			n.set[x.x]++
		}
	}
}

// follow makes a client call where a lookup has told it to.
func (n *network) follow(i int, x api.Mapping, port int) {
	x.Port = port
	if n.set[x] == 0 {
		n.t.Fatalf("a lookup told %v, which nobody has set", x)
	}
	args := four(n.r.Intn(1 << 32))
	if sequence, e := n.clients[i].Call(host+port, x.Prog, x.Vers, 1, args); e == api.OK {
		n.issued[who{firstClient + i, sequence}] = issue{called: true, x: x, args: args}
	}
}

// look takes the outcomes of a client.
func (n *network) look(i int) {
	for _, o := range n.clients[i].Done() {
		id := who{firstClient + i, o.Sequence}
		x := n.issued[id]
		if o.Status == api.OutTimeout {
			n.count["timeout"]++
			continue
		}
		if o.Status != api.OutSuccess {
			n.t.Fatalf("%v has the outcome %v", x, o)
		}
		if x.called {
			n.count["called"]++
			if want := (offer{x.x.Prog, x.x.Vers, x.x.Port}).answer(x.args); o.Results != want {
				n.t.Fatalf("the call of %v is answered %q, not %q", x, o.Results, want)
			}
			continue
		}
		n.told[id] = o.Results
		n.count["asked"]++
		if port, e := portmap.Heard(o.Results); x.proc == 3 && port != 0 {
			if e != api.OK {
				n.t.Fatalf("Heard: %d", e)
			}
			n.follow(i, x.x, port)
		}
	}
}

func (n *network) deliver(p api.Packet) {
	if i := p.To - firstClient; i >= 0 {
		n.clients[i].Hear(p)
		n.look(i)
		return
	}
	n.send(n.servers[p.To-host].Hear(p))
}

// step is whatever may happen next.
func (n *network) step() {
	flying := len(n.air.Flying())
	i := n.r.Intn(len(n.clients))
	switch n.r.Intn(18) {
	case 0, 1:
		n.ask(i)
	case 2, 3:
		n.clients[i].Tick()
		n.look(i)
	case 4:
		n.air.Drop(n.r.Intn(flying + 1))
	case 5:
		n.air.Double(n.r.Intn(flying + 1))
	case 6, 7:
		l, _ := n.servers[mapperPort].Work()
		n.send(l)
	case 8, 9:
		l, _ := n.servers[firstPort+n.r.Intn(3)].Work()
		n.send(l)
	case 10, 11:
		n.send(n.clients[i].Due())
	default:
		if p, e := n.air.Deliver(n.r.Intn(flying + 1)); e == api.OK {
			n.deliver(p)
		}
	}
}

// checkLog: what the mapper has answered is, call by call, what a list tells.
func (n *network) checkLog() {
	l := newList()
	for at, y := range n.servers[mapperPort].Log() {
		id := who{y.Who.Address, y.Sequence}
		x, is := n.issued[id]
		if !is || x.called || x.proc != y.Proc {
			n.t.Fatalf("%v stands in the log, at %d, where %v was issued", y, at, x)
		}
		number, all := l.should(x.proc, x.x)
		want := four(number)
		if x.proc == 4 {
			want = laidAll(all)
		}
		if y.Accept != api.Success || y.Results != want {
			n.t.Fatalf("%v stands in the log, at %d, where a list tells %q", y, at, want)
		}
		if told, is := n.told[id]; is && told != want {
			n.t.Fatalf("%v: the client was told %q, not %q", y, told, want)
		}
		delete(n.told, id)
	}
	if len(n.told) > 0 {
		n.t.Fatalf("the log has none of %v", n.told)
	}
}

// TestNetwork is P7: what the portmapper answers is what a list would, and who calls where a lookup has told comes to the service that was set there, whatever is lost, doubled and late.
func TestNetwork(t *testing.T) {
	r := rand.New(rand.NewSource(7))
	count := map[string]int{}
	for range 40 {
		n := newNetwork(t, r, count)
		for range 2000 {
			n.step()
		}
		n.checkLog()
	}
	for kind, least := range map[string]int{"asked": 2000, "called": 300, "timeout": 20} {
		if count[kind] < least {
			t.Errorf("%s: %d times only", kind, count[kind])
		}
	}
}

package world

import (
	"slices"

	"callbox/api"
	"callbox/client"
	"callbox/machine"
	"callbox/portmap"
	"callbox/server"
)

// Where all are to be found.
const (
	host          = 1 << 16
	firstServer   = host
	firstClient   = 2*host + 700
	firstStranger = 16000000
	lastStranger  = 9999 // behind the first one
)

const mostClients = 16

// there is told of what was made already, many of what is one more than there may be.
const (
	there = "there"
	many  = "many"
)

// The portmapper's numbers.
const (
	mapperProg = 100000
	mapperVers = 2
	procSet    = 1
	procUnset  = 2
	procPort   = 3
	procDump   = 4
)

// procOf is the portmapper's procedure that an ASK names; 0: none.
func procOf(ask string) int {
	switch ask {
	case "set":
		return procSet
	case "unset":
		return procUnset
	case "port":
		return procPort
	case "dump":
		return procDump
	}
	return 0
}

// clientAddress is that of the i-th client.
func clientAddress(i int) int { return firstClient + host*i }

func (w *world) addServer(l words) string {
	port := l.number(1)
	if w.sites[port] != nil {
		return there
	}
	if port > api.MaxPort {
		return failed(api.ErrArg)
	}
	s, e := server.New(api.ServerConfig{
		Address: firstServer + port,
		Cache:   api.CacheConfig{Clients: l.number(2), Entries: l.number(3), Bytes: l.number(4), Reserve: l.number(5)},
	})
	if e == api.OK {
		w.sites[port] = &site{server: s}
	}
	return done(e)
}

func (w *world) offer(l words) string {
	x := w.sites[l.number(1)]
	if x == nil || w.table == nil {
		return none
	}
	m, e := machine.New(w.schema, w.table.prog, w.table.vers, w.table.Table)
	if e != api.OK {
		return failed(e)
	}
	e = x.server.Offer(m.Service())
	if e == api.OK {
		x.machine = m
	}
	return done(e)
}

func (w *world) mapper(l words) string {
	x := w.sites[l.number(1)]
	if x == nil {
		return none
	}
	return done(x.server.Offer(portmap.New().Service()))
}

// named is the place of the client of a name; -1: there is none.
func (w *world) named(name string) int {
	return slices.IndexFunc(w.callers, func(c caller) bool { return c.name == name })
}

func (w *world) addClient(l words) string {
	name := l[1]
	if w.named(name) >= 0 {
		return there
	}
	if len(w.callers) == mostClients {
		return many
	}
	c, e := client.New(api.ClientConfig{
		Address:  clientAddress(len(w.callers)),
		Instance: l.number(2),
		First:    l.number(3),
		Window:   l.number(4),
		Pace:     api.Pace{Base: l.number(5), Cap: l.number(6), Tries: l.number(7)},
		Sys:      api.Sys{Machine: name},
	})
	if e == api.OK {
		w.callers = append(w.callers, caller{name, c})
	}
	return done(e)
}

// clientFor is the client that a line calls by, to a port. If it may not, that is what is told of it.
func (w *world) clientFor(name string, port int) (c *client.Client, wrong string) {
	i := w.named(name)
	if i < 0 {
		return nil, none
	}
	if port > api.MaxPort {
		return nil, failed(api.ErrArg)
	}
	return w.callers[i].client, ""
}

func (w *world) call(l words) string {
	port := l.number(2)
	c, wrong := w.clientFor(l[1], port)
	if wrong != "" {
		return wrong
	}
	args, e := w.pack(w.takeArgs())
	if e != api.OK {
		return failed(e)
	}
	return w.issue(c, port, l.number(3), l.number(4), l.number(5), args)
}

func (w *world) ask(l words) string {
	port, proc := l.number(2), procOf(l[3])
	c, wrong := w.clientFor(l[1], port)
	if wrong != "" {
		return wrong
	}
	args := ""
	if proc != procDump {
		var e api.Errno
		args, e = portmap.Args(api.Mapping{Prog: l.number(4), Vers: l.number(5), Prot: l.number(6), Port: l.number(7)})
		if e != api.OK {
			return failed(e)
		}
	}
	return w.issue(c, port, mapperProg, mapperVers, proc, args)
}

// issue makes a client call, and sends what is due then.
func (w *world) issue(c *client.Client, port, prog, vers, proc int, args string) string {
	n, e := c.Call(firstServer+port, prog, vers, proc, args)
	if e != api.OK {
		return failed(e)
	}
	w.send(c.Due())
	return counted("call", n)
}

// send puts datagrams under way. What the air refuses is lost, as others are that it took.
func (w *world) send(all []api.Packet) {
	for _, p := range all {
		w.air.Send(p)
	}
}

func (w *world) tick(words) string {
	now := w.air.Tick()
	for _, c := range w.callers {
		c.client.Tick()
	}
	for _, c := range w.callers {
		w.send(c.client.Due())
	}
	return counted("time", now)
}

func (w *world) deliver(l words) string {
	p, e := w.air.Deliver(l.number(1))
	if e != api.OK {
		return failed(e)
	}
	port := p.To - firstServer
	if x := w.sites[port]; x != nil {
		w.send(x.server.Hear(p))
		return counted("server", port)
	}
	for i, c := range w.callers {
		if clientAddress(i) == p.To {
			return counted("client "+c.name, c.client.Hear(p))
		}
	}
	return "nobody"
}

func (w *world) drop(l words) string { return done(w.air.Drop(l.number(1))) }

func (w *world) double(l words) string { return done(w.air.Double(l.number(1))) }

func (w *world) stray(l words) string {
	to, is := w.addressOf(l[2])
	if !is {
		return none
	}
	from := firstStranger + min(l.number(1), lastStranger)
	return done(w.air.Send(api.Packet{From: from, To: to, Data: l.bytes(3)}))
}

// addressOf is that of a WHOM, and whether there is one: that of a server is there without one, too.
func (w *world) addressOf(whom string) (int, bool) {
	if port, is := numberOf(whom); is {
		return firstServer + min(port, api.MaxPort), true
	}
	i := w.named(whom)
	return clientAddress(i), i >= 0
}

func (w *world) work(l words) string {
	x := w.sites[l.number(1)]
	if x == nil {
		return none
	}
	answers, was := x.server.Work()
	if !was {
		return "idle"
	}
	w.send(answers)
	return "done"
}

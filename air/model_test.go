package air_test

import (
	"slices"

	"callbox/air"
	"callbox/api"
)

// flight is a datagram of the model: how it was sent, as which one, and what became of it.
type flight struct {
	packet  api.Packet
	sending int
	gone    bool
}

// model keeps every datagram that there ever was, in the order in which they came to be; those that are not gone are under way.
type model struct {
	all                               []flight
	doubled                           map[int]bool // by their sendings
	now                               int
	sends, doubles, delivers, dropped int
}

func newModel() *model { return &model{doubled: map[int]bool{}} }

// place is where the n-th of those under way stands among all; -1: there is none.
func (m *model) place(n int) int {
	for i, f := range m.all {
		if !f.gone && n == 0 {
			return i
		}
		if !f.gone {
			n--
		}
	}
	return -1
}

func (m *model) count() int {
	n := 0
	for _, f := range m.all {
		if !f.gone {
			n++
		}
	}
	return n
}

func (m *model) send(p api.Packet) api.Errno {
	if len(p.Data) > mostBytes {
		return api.ErrAirLong
	}
	if m.count() == mostFlying {
		return api.ErrAirFull
	}
	m.all = append(m.all, flight{packet: p, sending: m.sends})
	m.sends++
	return api.OK
}

func (m *model) leave(n int) (api.Packet, api.Errno) {
	i := m.place(n)
	if i < 0 {
		return api.Packet{}, api.ErrAirPick
	}
	m.all[i].gone = true
	return m.all[i].packet, api.OK
}

func (m *model) deliver(n int) (api.Packet, api.Errno) {
	p, e := m.leave(n)
	if e == api.OK {
		m.delivers++
	}
	return p, e
}

func (m *model) drop(n int) api.Errno {
	_, e := m.leave(n)
	if e == api.OK {
		m.dropped++
	}
	return e
}

func (m *model) double(n int) api.Errno {
	i := m.place(n)
	if i < 0 {
		return api.ErrAirPick
	}
	if m.count() == mostFlying {
		return api.ErrAirFull
	}
	m.all = append(m.all, m.all[i])
	m.doubled[m.all[i].sending] = true
	m.doubles++
	return api.OK
}

func (m *model) tick() int {
	m.now++
	return m.now
}

// underWay are the model's, and of each as which one it was sent.
func (m *model) underWay() ([]api.Packet, []int) {
	var out []api.Packet
	var sendings []int
	for _, f := range m.all {
		if !f.gone {
			out = append(out, f.packet)
			sendings = append(sendings, f.sending)
		}
	}
	return out, sendings
}

// The kinds of steps.
const (
	sends = iota
	delivers
	drops
	doubles
	ticks
	kinds
)

// step is a call, with the number or the packet that it takes.
type step struct {
	kind, n int
	p       api.Packet
}

// play makes the call, with the Air and with the model: what is wrong with the Air's answer.
func (s step) play(x *air.Air, m *model) string {
	same := true
	switch s.kind {
	case sends:
		same = x.Send(s.p) == m.send(s.p)
	case delivers:
		p, e := x.Deliver(s.n)
		q, f := m.deliver(s.n)
		same = p == q && e == f
	case drops:
		same = x.Drop(s.n) == m.drop(s.n)
	case doubles:
		same = x.Double(s.n) == m.double(s.n)
	case ticks:
		same = x.Tick() == m.tick()
	}
	if !same {
		return "it answers otherwise"
	}
	return standsWrong(x, m)
}

// standsWrong is what is wrong with what is under way, held against the model and against A5's words.
func standsWrong(x *air.Air, m *model) string {
	want, sendings := m.underWay()
	got := x.Flying()
	if !slices.Equal(got, want) || x.Now() != m.now {
		return "others are under way, or the time is another"
	}
	if m.sends+m.doubles != m.delivers+m.dropped+len(got) {
		return "some came to be from nothing, or went without a word"
	}
	last := -1
	for _, n := range sendings {
		if m.doubled[n] {
			continue
		}
		if n <= last {
			return "they stand in another order"
		}
		last = n
	}
	return ""
}

package client_test

import (
	"encoding/binary"
	"fmt"
	"slices"
	"testing"

	"callbox/api"
	"callbox/client"
	"callbox/cred"
	"callbox/message"
	"callbox/pace"
)

// request is a datagram of a client, read.
type request struct {
	call api.Call
	mark api.Mark
}

func readRequest(t *testing.T, p api.Packet) request {
	t.Helper()
	c, e := message.ParseCall(p.Data)
	m, is, why := cred.Judge(c)
	if e != api.OK || !is || why != api.AuthOK {
		t.Fatalf("%v: %d, %v, %d: no request", p, e, is, why)
	}
	return request{c, m}
}

// issued is all that ever was of one call.
type issued struct {
	sequence, to, prog, vers, proc int
	args                           string
	at                             int
	given                          []int // when requests of it were given
	ended                          bool
}

// model keeps every call and every outcome there ever was, and reckons all anew from that whenever it is asked.
type model struct {
	config  api.ClientConfig
	now     int
	calls   []*issued
	came    []api.Outcome
	told    int
	samples []int
}

func newModel(config api.ClientConfig) *model { return &model{config: config} }

// dueTimes are when the sendings of a call are due, and behind them its end.
func (m *model) dueTimes(x *issued) []int {
	out := []int{x.at}
	wait := m.config.Pace.Base
	for range m.config.Pace.Tries {
		out = append(out, out[len(out)-1]+min(wait, m.config.Pace.Cap))
		wait *= 2
	}
	return out
}

func (m *model) next() int { return m.config.First + len(m.calls) }

func (m *model) waiting() []int {
	var out []int
	for _, x := range m.calls {
		if !x.ended {
			out = append(out, x.sequence)
		}
	}
	return out
}

func (m *model) water() int {
	if l := m.waiting(); len(l) > 0 {
		return slices.Min(l)
	}
	return m.next()
}

func (m *model) guess() int {
	meter := pace.NewMeter()
	for _, n := range m.samples {
		meter.Hear(n)
	}
	return meter.Guess()
}

func outside(n, least, most int) bool { return n < least || n > most }

func (m *model) call(to, prog, vers, proc int, args string) (int, api.Errno) {
	if outside(to, 1, 1<<24-1) || outside(prog, 0, 1<<32-1) || outside(vers, 0, 1<<32-1) || outside(proc, 0, 1<<32-1) {
		return 0, api.ErrArg
	}
	if len(args) > 1000 || len(args)%4 > 0 {
		return 0, api.ErrClientLong
	}
	if m.next()-m.water() >= m.config.Window {
		return 0, api.ErrClientWindow
	}
	if m.next() == 1<<32 {
		return 0, api.ErrClientWorn
	}
	x := &issued{sequence: m.next(), to: to, prog: prog, vers: vers, proc: proc, args: args, at: m.now}
	m.calls = append(m.calls, x)
	return x.sequence, api.OK
}

// isDue: was a sending due behind the time at which the last request was given?
func (m *model) isDue(x *issued) bool {
	last := -1
	if len(x.given) > 0 {
		last = x.given[len(x.given)-1]
	}
	for _, time := range m.dueTimes(x)[:m.config.Pace.Tries] {
		if time > last && time <= m.now {
			return !x.ended
		}
	}
	return false
}

func (m *model) due() []api.Packet {
	var out []api.Packet
	for _, x := range m.calls {
		if m.isDue(x) {
			out = append(out, m.request(x))
			x.given = append(x.given, m.now)
		}
	}
	return out
}

func words(numbers ...int) string {
	var out []byte
	for _, n := range numbers {
		out = binary.BigEndian.AppendUint32(out, uint32(n))
	}
	return string(out)
}

func hypers(numbers ...int) string {
	var out []byte
	for _, n := range numbers {
		out = binary.BigEndian.AppendUint64(out, uint64(n))
	}
	return string(out)
}

// request is laid down without the layers below.
func (m *model) request(x *issued) api.Packet {
	s := m.config.Sys
	machine := s.Machine + "\x00\x00\x00"[:(4-len(s.Machine)%4)%4]
	body := hypers(m.config.Instance, x.sequence, m.water()) + words(s.Stamp, len(s.Machine)) + machine +
		words(s.User, s.Group, len(s.Groups)) + words(s.Groups...)
	data := words(x.sequence, 0, 2, x.prog, x.vers, x.proc) + "MARK" + words(len(body)) + body + words(0, 0) + x.args
	return api.Packet{From: m.config.Address, To: x.to, Data: data}
}

func (m *model) end(x *issued, o api.Outcome) {
	x.ended = true
	o.Sequence, o.At = x.sequence, m.now
	m.came = append(m.came, o)
}

func (m *model) tick() {
	m.now++
	for _, x := range m.calls {
		if times := m.dueTimes(x); !x.ended && times[len(times)-1] <= m.now {
			m.end(x, api.Outcome{Status: api.OutTimeout})
		}
	}
}

func (m *model) hear(p api.Packet) int {
	r, e := message.ParseReply(p.Data)
	for _, x := range m.calls {
		if e != api.OK || p.To != m.config.Address || x.ended || x.sequence != r.Xid || x.to != p.From {
			continue
		}
		if len(x.given) == 1 {
			m.samples = append(m.samples, m.now-x.given[0])
		}
		m.end(x, saidBy(r))
		return x.sequence
	}
	return 0
}

// saidBy tells what a reply says kind by kind.
func saidBy(r api.Reply) api.Outcome {
	o := api.Outcome{Status: api.OutAccept, Accept: r.Accept, Low: r.Low, High: r.High}
	if r.Denied {
		o = api.Outcome{Status: api.OutDenied, Reject: r.Reject, Why: r.Why, Low: r.Low, High: r.High}
	} else if r.Accept == 0 {
		o = api.Outcome{Status: api.OutSuccess, Results: r.Results}
	} else if r.Accept == 5 {
		o = api.Outcome{Status: api.OutRefused}
	}
	return o
}

func (m *model) done() []api.Outcome {
	out := m.came[m.told:]
	m.told = len(m.came)
	return out
}

// The kinds of steps.
const (
	calls = iota
	dues
	ticks
	hears
	dones
	kinds
)

// step is a call of the face, with what it takes.
type step struct {
	kind                 int
	to, prog, vers, proc int
	args                 string
	packet               api.Packet
}

// play makes the call, with the client and with the model: what is wrong with the client's answer.
func (s step) play(c *client.Client, m *model) string {
	var got, want any
	switch s.kind {
	case calls:
		n, e := c.Call(s.to, s.prog, s.vers, s.proc, s.args)
		k, f := m.call(s.to, s.prog, s.vers, s.proc, s.args)
		got, want = []any{n, e}, []any{k, f}
	case dues:
		got, want = c.Due(), m.due()
	case ticks:
		c.Tick()
		m.tick()
	case hears:
		got, want = c.Hear(s.packet), m.hear(s.packet)
	case dones:
		got, want = c.Done(), m.done()
	}
	if a, b := fmt.Sprint(got), fmt.Sprint(want); a != b {
		return "it answers " + a + ", not " + b
	}
	return standsWrong(c, m)
}

// standsWrong is what is wrong with what a client tells of itself.
func standsWrong(c *client.Client, m *model) string {
	if !slices.Equal(c.Waiting(), m.waiting()) || c.Water() != m.water() {
		return fmt.Sprintf("waiting are %v, of the water %d, not %v, of %d", c.Waiting(), c.Water(), m.waiting(), m.water())
	}
	if c.Now() != m.now || c.Guess() != m.guess() {
		return fmt.Sprintf("the time is %d, the guess %d, not %d, %d", c.Now(), c.Guess(), m.now, m.guess())
	}
	return ""
}

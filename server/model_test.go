package server_test

import (
	"encoding/binary"
	"fmt"
	"slices"
	"strings"

	"callbox/api"
	"callbox/server"
	"callbox/service"
)

// words are numbers by four bytes each.
func words(numbers ...int) string {
	var out []byte
	for _, n := range numbers {
		out = binary.BigEndian.AppendUint32(out, uint32(n))
	}
	return string(out)
}

// cutter reads bytes without the layers below; short: there was less than was asked for, or a byte that should be a nought.
type cutter struct {
	text  string
	short bool
}

func (c *cutter) number(size int) int {
	if c.short || len(c.text) < size {
		c.short = true
		return 0
	}
	n := 0
	for _, b := range []byte(c.text[:size]) {
		n = n<<8 | int(b)
	}
	c.text = c.text[size:]
	return n
}

func (c *cutter) opaque(most int) string {
	size := c.number(4)
	whole := (size + 3) / 4 * 4
	if c.short || size > most || whole > len(c.text) || strings.Trim(c.text[size:whole], "\x00") != "" {
		c.short = true
		return ""
	}
	body := c.text[:size]
	c.text = c.text[whole:]
	return body
}

// sys: is what is left the body of a sys, and nothing else?
func (c *cutter) sys() bool {
	c.number(4)
	c.opaque(255)
	c.number(8)
	n := c.number(4)
	return !c.short && n <= 16 && len(c.text) == 4*n
}

// asked is a call as it stands in a datagram; why: what is wrong with its credentials.
type asked struct {
	xid, rpc, prog, vers, proc int
	why                        int
	marked                     bool
	instance, sequence, water  int
	args                       string
}

// readCall reads a datagram; is it a call?
func readCall(data string) (asked, bool) {
	r := &cutter{text: data}
	a := asked{xid: r.number(4)}
	kind := r.number(4)
	a.rpc = r.number(4)
	if r.short || kind != 0 || a.rpc != 2 {
		return a, !r.short && kind == 0
	}
	a.prog, a.vers, a.proc = r.number(4), r.number(4), r.number(4)
	flavor := r.number(4)
	a.judge(flavor, r.opaque(400))
	if verifier, body := r.number(4), r.opaque(400); a.why == 0 && (verifier != 0 || body != "") {
		a.why = 3
	}
	a.args = r.text
	return a, !r.short && len(a.args) <= 1000 && len(a.args)%4 == 0
}

func (a *asked) judge(flavor int, body string) {
	r := &cutter{text: body}
	may := false
	switch flavor {
	case 0:
		may = body == ""
	case 1:
		may = r.sys()
	case 'M'<<24 | 'A'<<16 | 'R'<<8 | 'K':
		a.instance, a.sequence, a.water = r.number(8), r.number(8), r.number(8)
		a.marked = a.instance >= 1 && a.instance <= 1<<62 && a.water >= 1 && a.water <= a.sequence && a.sequence == a.xid && r.sys()
		may = a.marked
	default:
		a.why = 2
		return
	}
	if !may {
		a.why = 1
	}
}

func denied(xid, why int) string { return words(xid, 1, 1, 1, why) }

func accepted(xid, accept int, more ...int) string {
	return words(append([]int{xid, 1, 0, 0, 0, accept}, more...)...)
}

type identity struct {
	who      api.Who
	sequence int
}

// record is a call that was new once; it is never taken out.
type record struct {
	id    identity
	call  asked
	taken bool
	reply string
}

// said is a water that a client said, from when on it was known.
type said struct {
	who   api.Who
	water int
}

// tells is what a Handle is to do when it is called.
type tells struct {
	panics  bool
	accept  int
	results string
}

// history tells everything from all that ever was heard: what is in the cache, and what waits, is reckoned anew each time it is asked for.
type history struct {
	config  api.ServerConfig
	procs   map[[3]int]int
	records []record
	said    []said
	log     []api.Entry
}

// answer is what Hear answers; "": nothing.
func (h *history) answer(p api.Packet) string {
	a, is := readCall(p.Data)
	if !is || p.To != h.config.Address || !address(p.From) {
		return ""
	}
	if a.rpc != 2 {
		return words(a.xid, 1, 1, 0, 2, 2)
	}
	if a.why != 0 {
		return denied(a.xid, a.why)
	}
	if text := h.missing(a); text != "" {
		return text
	}
	switch {
	case a.proc == 0 && a.args == "":
		return accepted(a.xid, 0)
	case a.proc == 0:
		return accepted(a.xid, 4)
	case !a.marked:
		return denied(a.xid, 5)
	}
	return h.ask(identity{api.Who{Address: p.From, Instance: a.instance}, a.sequence}, a)
}

// missing is the reply to a call of what is not there.
func (h *history) missing(a asked) string {
	low, high, vers := 1<<40, -1, false
	for key := range h.procs {
		if key[0] == a.prog {
			low, high, vers = min(low, key[1]), max(high, key[1]), vers || key[1] == a.vers
		}
	}
	if high < 0 {
		return accepted(a.xid, 1)
	}
	if !vers {
		return accepted(a.xid, 2, low, high)
	}
	if h.procs[[3]int{a.prog, a.vers, a.proc}] == 0 {
		return accepted(a.xid, 3)
	}
	return ""
}

func (h *history) water(who api.Who) int {
	most := 0
	for _, s := range h.said {
		if s.who == who {
			most = max(most, s.water)
		}
	}
	return most
}

func (h *history) alive(x record) bool { return x.id.sequence >= h.water(x.id.who) }

func (h *history) waits(x record) bool { return h.alive(x) && !x.taken }

// held is of one client, or of all, if it is nobody.
func (h *history) held(who api.Who) (clients, entries, bytes int) {
	seen := map[api.Who]bool{}
	for _, s := range h.said {
		seen[s.who] = true
	}
	for _, x := range h.records {
		if !h.alive(x) || who != (api.Who{}) && x.id.who != who {
			continue
		}
		entries++
		if x.taken {
			bytes += len(x.reply)
		} else {
			bytes += h.config.Cache.Reserve
		}
	}
	return len(seen), entries, bytes
}

func (h *history) ask(id identity, a asked) string {
	known := h.water(id.who) > 0
	if known {
		h.said = append(h.said, said{id.who, a.water})
	}
	if id.sequence < h.water(id.who) {
		return ""
	}
	for _, x := range h.records {
		if x.id == id {
			return x.reply
		}
	}
	_, own, _ := h.held(id.who)
	clients, _, bytes := h.held(api.Who{})
	room := h.config.Cache
	if known && own == room.Entries || !known && clients == room.Clients || bytes > room.Bytes-room.Reserve {
		return accepted(a.xid, 5)
	}
	if !known {
		h.said = append(h.said, said{id.who, a.water})
	}
	h.records = append(h.records, record{id: id, call: a})
	return ""
}

func (h *history) queue() int {
	n := 0
	for _, x := range h.records {
		if h.waits(x) {
			n++
		}
	}
	return n
}

// work runs the first one that waits: what is sent, and which call it was.
func (h *history) work(t tells) (string, record, bool) {
	i := slices.IndexFunc(h.records, h.waits)
	if i < 0 {
		return "", record{}, false
	}
	x := &h.records[i]
	entry := api.Entry{Who: x.id.who, Sequence: x.id.sequence, Prog: x.call.prog, Vers: x.call.vers, Proc: x.call.proc, Args: x.call.args, Accept: 5}
	if !t.panics && t.accept == 4 {
		entry.Accept = 4
	} else if !t.panics && t.accept == 0 && len(t.results) <= 1000 && len(t.results)%4 == 0 {
		entry.Accept, entry.Results = 0, t.results
	}
	if entry.Accept != 4 {
		h.log = append(h.log, entry)
	}
	x.taken, x.reply = true, accepted(x.call.xid, entry.Accept)+entry.Results
	if len(x.reply) > h.config.Cache.Reserve {
		x.reply = accepted(x.call.xid, 5)
	}
	return x.reply, *x, true
}

// The kinds of steps.
const (
	hears = iota
	works
	offers
)

type step struct {
	kind       int
	packet     api.Packet
	tells      tells
	prog, vers int
	procs      []int
}

func (s step) String() string {
	switch s.kind {
	case hears:
		return fmt.Sprintf("Hear(%d, %d, %x)", s.packet.From, s.packet.To, s.packet.Data)
	case works:
		return fmt.Sprintf("Work(%v, %d, %d bytes)", s.tells.panics, s.tells.accept, len(s.tells.results))
	}
	return fmt.Sprintf("Offer(%d, %d, %v)", s.prog, s.vers, s.procs)
}

// pair is a server, and the history that it must agree with.
type pair struct {
	server  *server.Server
	history *history
	tells   tells
	heard   []string
}

func newPair(config api.ServerConfig) (*pair, api.Errno) {
	s, e := server.New(config)
	return &pair{server: s, history: &history{config: config, procs: map[[3]int]int{}}}, e
}

// handleOf a service notes what it is called with.
func (p *pair) handleOf(prog, vers int) func(int, string) (int, string) {
	return func(proc int, args string) (int, string) {
		p.heard = append(p.heard, fmt.Sprintf("%d %d %d %q", prog, vers, proc, args))
		if p.tells.panics {
			panic(p.tells)
		}
		return p.tells.accept, p.tells.results
	}
}

// play makes the call with both: what is wrong with the server.
func (p *pair) play(s step) string {
	p.tells, p.heard = s.tells, nil
	switch s.kind {
	case hears:
		var want []api.Packet
		if text := p.history.answer(s.packet); text != "" {
			want = []api.Packet{{From: p.history.config.Address, To: s.packet.From, Data: text}}
		}
		if got := p.server.Hear(s.packet); !slices.Equal(got, want) {
			return fmt.Sprintf("Hear: %x, not %x", got, want)
		}
	case works:
		return p.playWork(s.tells)
	case offers:
		if e := p.server.Offer(service.Service{Prog: s.prog, Vers: s.vers, Procs: s.procs, Handle: p.handleOf(s.prog, s.vers)}); e != api.OK {
			return fmt.Sprintf("Offer: %d", e)
		}
		for _, proc := range append([]int{0}, s.procs...) {
			p.history.procs[[3]int{s.prog, s.vers, proc}] = 1
		}
	}
	return p.standsWrong(nil)
}

func (p *pair) playWork(t tells) string {
	text, x, is := p.history.work(t)
	got, some := p.server.Work()
	if some != is || !is && len(got) != 0 {
		return fmt.Sprintf("Work: %v, %v", got, some)
	}
	if !is {
		return p.standsWrong(nil)
	}
	if want := []api.Packet{{From: p.history.config.Address, To: x.id.who.Address, Data: text}}; !slices.Equal(got, want) {
		return fmt.Sprintf("Work: %x, not %x", got, want)
	}
	return p.standsWrong([]string{fmt.Sprintf("%d %d %d %q", x.call.prog, x.call.vers, x.call.proc, x.call.args)})
}

// standsWrong is what is wrong with what was called, and with what the server tells of itself.
func (p *pair) standsWrong(called []string) string {
	if !slices.Equal(p.heard, called) {
		return fmt.Sprintf("called was %v, not %v", p.heard, called)
	}
	clients, entries, bytes := p.server.Held()
	if a, b, c := p.history.held(api.Who{}); a != clients || b != entries || c != bytes {
		return fmt.Sprintf("Held: %d, %d, %d, not %d, %d, %d", clients, entries, bytes, a, b, c)
	}
	if n := p.history.queue(); p.server.Queue() != n {
		return fmt.Sprintf("%d wait, not %d", p.server.Queue(), n)
	}
	if log := p.server.Log(); !slices.Equal(log, p.history.log) {
		return fmt.Sprintf("the log is %v, not %v", log, p.history.log)
	}
	return ""
}

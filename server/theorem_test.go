package server_test

import (
	"encoding/binary"
	"math/rand"
	"strings"
	"testing"

	"callbox/api"
)

// letter is a call, laid down by hand, so that anything may stand in it.
type letter struct {
	xid, sign, rpc, prog, vers, proc int
	flavor                           int
	body                             string
	verifier                         int
	verifierBody, args               string
}

func opaque(text string) string {
	return words(len(text)) + text + strings.Repeat("\x00", (4-len(text)%4)%4)
}

func (l letter) text() string {
	return words(l.xid, l.sign, l.rpc, l.prog, l.vers, l.proc, l.flavor) + opaque(l.body) + words(l.verifier) + opaque(l.verifierBody) + l.args
}

// sysBody is the body of somebody without a name.
func sysBody(groups ...int) string {
	return words(append([]int{7, 0, 1, 2, len(groups)}, groups...)...)
}

func markBody(instance, sequence, water int, sys string) string {
	var out []byte
	for _, n := range []int{instance, sequence, water} {
		out = binary.BigEndian.AppendUint64(out, uint64(n))
	}
	return string(out) + sys
}

// marked is a letter of the procedure 1 of the version 2 of the program 7.
func marked(instance, sequence, water int, args string) letter {
	return letter{xid: sequence, rpc: 2, prog: 7, vers: 2, proc: 1, flavor: api.AuthMark, body: markBody(instance, sequence, water, sysBody()), args: args}
}

func hear(from int, l letter) step {
	return step{kind: hears, packet: api.Packet{From: from, To: here, Data: l.text()}}
}

// wantAsHistory plays steps with a server, and with all that ever was heard.
func wantAsHistory(t *testing.T, config api.ServerConfig, steps []step) {
	t.Helper()
	p, e := newPair(config)
	wantErrno(t, "New", e, api.OK)
	for i, s := range steps {
		if wrong := p.play(s); wrong != "" {
			t.Fatalf("%v, at the step %d of %v: %s", config, i, steps, wrong)
		}
	}
}

// shortSteps are of two clients and three sequences, with each thing that may be told.
func shortSteps() []step {
	var each []step
	for sequence := 1; sequence <= 3; sequence++ {
		for water := 1; water <= sequence; water++ {
			each = append(each, hear(ann, marked(5, sequence, water, "ann"+string(rune('0'+sequence)))))
		}
	}
	nought, nobody := marked(5, 3, 3, ""), marked(5, 3, 3, "")
	nought.proc, nobody.flavor, nobody.body = 0, 0, ""
	each = append(each, hear(bob, marked(5, 1, 1, "bob1")), hear(bob, marked(5, 2, 2, "bob2")))
	each = append(each, hear(ann, nought), hear(ann, nobody))
	each = append(each, step{kind: works, tells: tells{results: "four"}}, step{kind: works, tells: tells{results: strings.Repeat("long", 11)}})
	return append(each, step{kind: works, tells: tells{accept: api.GarbageArgs}}, step{kind: works, tells: tells{panics: true}})
}

// TestAllShortRuns is S2 to S5: whatever three steps there are behind the offer, and behind a call that was run, where room is short in each way.
func TestAllShortRuns(t *testing.T) {
	each := shortSteps()
	offered := step{kind: offers, prog: 7, vers: 2, procs: []int{1}}
	configs := []api.CacheConfig{
		{Clients: 1, Entries: 2, Bytes: 200, Reserve: 64},
		{Clients: 2, Entries: 1, Bytes: 200, Reserve: 67},
		{Clients: 2, Entries: 3, Bytes: 64 + 28, Reserve: 64},
		{Clients: 2, Entries: 3, Bytes: 1 << 20, Reserve: 68},
	}
	var run func(config api.ServerConfig, steps []step, left int)
	run = func(config api.ServerConfig, steps []step, left int) {
		if left == 0 {
			wantAsHistory(t, config, steps)
			return
		}
		for _, s := range each {
			run(config, append(steps, s), left-1)
		}
	}
	for _, c := range configs {
		config := api.ServerConfig{Address: here, Cache: c}
		run(config, append(make([]step, 0, 8), offered), 3)
		run(config, append(make([]step, 0, 8), offered, each[0], step{kind: works, tells: tells{results: "four"}}), 3)
		run(config, append(make([]step, 0, 8), offered, each[1], each[6]), 3)
	}
}

func pick(r *rand.Rand, numbers ...int) int { return numbers[r.Intn(len(numbers))] }

// run is what a long row of steps is made by: how many clients there are, which sequences are of now, and how often the server works, of ten steps.
type run struct {
	r                    *rand.Rand
	clients, near, works int
	config               api.ServerConfig
}

func newRun(r *rand.Rand) *run {
	reserve := 64 + r.Intn(3)*pick(r, 1, 40, 518)
	c := api.CacheConfig{Clients: 1 + r.Intn(4), Entries: 1 + r.Intn(8), Bytes: reserve*(1+r.Intn(20)) + r.Intn(reserve), Reserve: reserve}
	return &run{r: r, clients: 1 + r.Intn(4), near: pick(r, 1, 1, 5000, 1<<32-16), works: 1 + r.Intn(3), config: api.ServerConfig{Address: pick(r, here, 1, 1<<24-1), Cache: c}}
}

// makeLetter is mostly one of a call that may be run.
func (x *run) makeLetter(n int) letter {
	r := x.r
	sequence := max(1, x.near+n/12+r.Intn(5)-2)
	water := max(1, sequence-pick(r, 0, 1, 2, 2, 3, 3, 4, 5))
	l := marked(1+r.Intn(9)/8, sequence, water, strings.Repeat("args", pick(r, 0, 1, 2, 250)))
	l.proc = pick(r, 1, 1, 2)
	switch r.Intn(12) {
	case 0:
		l.prog, l.proc = 8, 1
	case 1:
		l.prog, l.vers, l.proc = pick(r, 7, 8), pick(r, 2, 4), pick(r, 1, 2, 4)
	}
	for range r.Intn(7) / 5 {
		x.spoil(&l, sequence, water)
	}
	return l
}

// spoil makes something else of a letter, mostly something for which it is refused.
func (x *run) spoil(l *letter, sequence, water int) {
	r := x.r
	switch r.Intn(16) {
	case 0:
		l.xid += pick(r, 1, -1)
	case 1:
		l.rpc = pick(r, 0, 1, 3, 1<<32-1)
	case 2:
		l.sign = pick(r, 1, 2, 1<<24)
	case 3:
		l.prog = pick(r, 0, 6, 9, 1<<32-1)
	case 4:
		l.vers = pick(r, 0, 1, 3, 5, 1<<32-1)
	case 5:
		l.proc = pick(r, 3, 4, 1<<32-1)
	case 6, 7:
		l.proc, l.args = 0, pickText(r, "", "", "args")
	case 8:
		l.flavor, l.body = 0, pickText(r, "", "", "", "x")
	case 9:
		l.flavor, l.body = api.AuthSys, pickText(r, sysBody(), sysBody(1, 2, 3), sysBody()+"\x00", "")
	case 10:
		l.flavor = pick(r, 0, 1, 2, api.AuthMark-1, 1<<32-1)
	case 11:
		l.body = markBody(pick(r, 0, 1<<62, 1<<62+1, -1), sequence, water, sysBody())
	case 12:
		l.body = markBody(1, sequence, pick(r, 0, sequence, sequence+1, 1<<32-1), sysBody())
	case 13:
		l.body = markBody(1, pick(r, 0, sequence+1, 1<<32, -1), water, pickText(r, sysBody(), ""))
	case 14:
		l.verifier, l.verifierBody = pick(r, 0, 1, api.AuthMark), pickText(r, "", "x", "body")
	default:
		l.args = strings.Repeat("x", pick(r, 1, 2, 3, 1000, 1001, 1004))
	}
}

func pickText(r *rand.Rand, texts ...string) string { return texts[r.Intn(len(texts))] }

// makePacket is mostly a letter as it is, from a client to the server.
func (x *run) makePacket(n int) api.Packet {
	r := x.r
	p := api.Packet{From: ann + r.Intn(x.clients), To: x.config.Address, Data: x.makeLetter(n).text()}
	switch r.Intn(40) {
	case 0:
		p.From = pick(r, edges...)
	case 1:
		p.To = pick(r, edges...)
	case 2:
		p.Data = p.Data[:r.Intn(len(p.Data))]
	case 3:
		p.Data += pickText(r, "x", "\x00\x00\x00\x00", "abcde")
	case 4, 5:
		i := r.Intn(min(120, len(p.Data)))
		p.Data = p.Data[:i] + string([]byte{byte(r.Intn(256))}) + p.Data[i+1:]
	}
	return p
}

func (x *run) makeSteps(many int) []step {
	r := x.r
	steps := []step{{kind: offers, prog: 7, vers: 2, procs: []int{1, 2}}, {kind: offers, prog: 8, vers: 2, procs: []int{1}}}
	late := many/3 + r.Intn(many/3)
	var heard []api.Packet
	for n := range many {
		switch k := r.Intn(10); {
		case n == late:
			steps = append(steps, step{kind: offers, prog: 7, vers: 4, procs: []int{2, 4}})
		case k < x.works:
			room := x.config.Cache.Reserve - 24
			text := strings.Repeat("r", pick(r, 0, 4, 4, 8, room/4*4, room/4*4+4, 1000, 1004, 5))
			steps = append(steps, step{kind: works, tells: tells{panics: r.Intn(12) == 0, accept: pick(r, 0, 0, 0, 0, 0, 0, 4, 5, 1, 9), results: text}})
		case k < 5 && len(heard) > 0:
			steps = append(steps, step{kind: hears, packet: heard[max(0, len(heard)-1-r.Intn(12))]})
		default:
			heard = append(heard, x.makePacket(n))
			steps = append(steps, step{kind: hears, packet: heard[len(heard)-1]})
		}
	}
	return steps
}

// TestLongRuns is S2 to S5: after each of many steps, what all that ever was heard says.
func TestLongRuns(t *testing.T) {
	r := rand.New(rand.NewSource(20))
	for range 300 {
		x := newRun(r)
		wantAsHistory(t, x.config, x.makeSteps(150))
	}
}

// kindOfWork tells what of S3 an answer is of.
func kindOfWork(h *history, s step) string {
	log := len(h.log)
	text, _, is := h.work(s.tells)
	switch {
	case !is:
		return "idle"
	case len(h.log) == log:
		return "garbage"
	case h.log[log].Accept == api.Success && text[23] != 0:
		return "long"
	}
	return "ran " + string(text[23]+'0')
}

// kindOfHear tells which step of S2 an answer is of; and how many calls that waited have gone.
func kindOfHear(h *history, s step) (string, int) {
	waited, came := h.queue(), len(h.records)
	text := h.answer(s.packet)
	came = len(h.records) - came
	return kindOfAnswer(text, s, came), waited + came - h.queue()
}

func kindOfAnswer(text string, s step, came int) string {
	switch {
	case came > 0:
		return "new"
	case text == "":
		return "nothing"
	case text[11] == 1:
		return "denied " + string(text[15]+'0') + string(text[19]+'0')
	case strings.HasSuffix(s.packet.Data, "args") && len(text) == 24:
		return "args " + string(text[23]+'0')
	}
	return "accepted " + string(text[23]+'0')
}

// TestRunsSeeAll: runs as those above come to whatever may be told, often.
func TestRunsSeeAll(t *testing.T) {
	r := rand.New(rand.NewSource(21))
	seen := map[string]int{}
	went := 0
	for range 150 {
		x := newRun(r)
		p, _ := newPair(x.config)
		for _, s := range x.makeSteps(150) {
			if s.kind == offers {
				p.play(s)
				continue
			}
			if s.kind == works {
				seen[kindOfWork(p.history, s)]++
				continue
			}
			kind, gone := kindOfHear(p.history, s)
			seen[kind]++
			went += gone
		}
	}
	for _, kind := range strings.Split("idle,garbage,long,ran 0,ran 5,new,nothing,denied 02,denied 11,denied 12,denied 13,denied 15,args 1,accepted 2,args 3,args 4,args 5,accepted 0,accepted 5", ",") {
		if seen[kind] < 20 {
			t.Errorf("%s is seen %d times only", kind, seen[kind])
		}
	}
	if went < 200 {
		t.Errorf("calls that wait have gone %d times only", went)
	}
}

// FuzzSteps takes four bytes for each step: what is done, and by whom; the sequence, and how far below the water is; what is wrong with the call, or what is told; how much.
func FuzzSteps(f *testing.F) {
	f.Add("\x00\x10\x00\x01" + "\x00\x10\x00\x01" + "\x03\x00\x00\x01" + "\x00\x10\x00\x01")
	f.Add("\x00\x21\x00\x01" + "\x04\x10\x00\x02" + "\x00\x30\x00\x03" + "\x03\x00\x40\x01" + "\x00\x21\x00\x01")
	f.Add("\x00\x10\x0c\x01" + "\x00\x10\x01\x01" + "\x00\x10\x06\x00" + "\x03\x00\x70\x01")
	f.Fuzz(func(t *testing.T, text string) {
		x := &run{r: rand.New(rand.NewSource(int64(len(text))))}
		steps := []step{{kind: offers, prog: 7, vers: 2, procs: []int{1, 2}}}
		for i := 0; i+3 < len(text) && len(steps) < 60; i += 4 {
			a, b, c, d := int(text[i]), int(text[i+1]), int(text[i+2]), int(text[i+3])
			if a&3 == 3 {
				steps = append(steps, step{kind: works, tells: tells{panics: c == 255, accept: c & 7, results: strings.Repeat("r", 2*d)}})
				continue
			}
			sequence := 1 + b>>4
			water := max(1, sequence-b&15)
			l := marked(1, sequence, water, strings.Repeat("a", 4*d))
			if c != 0 {
				x.spoil(&l, sequence, water)
			}
			s := hear(ann+a>>2&3, l)
			if k := len(s.packet.Data); a >= 128 {
				s.packet.Data = s.packet.Data[:c%k] + string([]byte{byte(d)}) + s.packet.Data[c%k+1:]
			}
			steps = append(steps, s)
		}
		wantAsHistory(t, api.ServerConfig{Address: here, Cache: api.CacheConfig{Clients: 2, Entries: 3, Bytes: 300, Reserve: 100}}, steps)
	})
}

// FuzzHear takes bytes as they are, behind a call that waits and one that was run.
func FuzzHear(f *testing.F) {
	f.Add(marked(5, 3, 2, "args").text())
	f.Add("\x00\x00\x00\x09\x00\x00\x00\x00\x00\x00\x00\x03xyz")
	f.Add(letter{rpc: 2, prog: 7, vers: 2}.text())
	f.Add("")
	f.Fuzz(func(t *testing.T, text string) {
		steps := []step{{kind: offers, prog: 7, vers: 2, procs: []int{1, 2}}, hear(ann, marked(5, 1, 1, "one.")), {kind: works}, hear(ann, marked(5, 2, 1, "two."))}
		p := api.Packet{From: ann, To: here, Data: text}
		for range 2 {
			steps = append(steps, step{kind: hears, packet: p}, step{kind: works, tells: tells{results: "four"}})
		}
		wantAsHistory(t, exampleConfig(), steps)
	})
}

// TestBentBytes is S2 and S5: of a call with any byte another one, heard behind a call that waits and one that was run, what all that was heard says.
func TestBentBytes(t *testing.T) {
	text := marked(5, 2, 2, "args").text()
	head := []step{{kind: offers, prog: 7, vers: 2, procs: []int{1, 2}}, hear(ann, marked(5, 1, 1, "one.")), {kind: works}}
	for i := range len(text) {
		for b := range 256 {
			bent := step{kind: hears, packet: api.Packet{From: ann, To: here, Data: text[:i] + string([]byte{byte(b)}) + text[i+1:]}}
			wantAsHistory(t, exampleConfig(), append(head[:3:3], bent, bent, step{kind: works, tells: tells{results: "four"}}, bent))
		}
	}
}

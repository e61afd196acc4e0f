package world_test

import (
	"fmt"
	"math/rand"
	"slices"
	"strings"
	"testing"

	"callbox/api"
	"callbox/machine"
	"callbox/schema"
	"callbox/world"
)

// identity is whose call it is, and which.
type identity struct{ address, sequence int }

// issue is a call as a line made it.
type issue struct {
	port, prog, vers, proc int
	args                   string
	mapping                api.Mapping
}

// story is what a network's script and its transcript say together.
type story struct {
	t       *testing.T
	schema  api.Schema
	table   api.Table
	args    []int
	names   []string
	issued  map[identity]issue
	ended   map[identity]string
	logs    map[int]string
	states  map[int]string
	strange int
}

func readStory(t *testing.T, script, transcript string) *story {
	x, e, _ := schema.Compile(strings.TrimPrefix(networkSource, "| "))
	if e != api.OK {
		t.Fatalf("Compile: %d", e)
	}
	s := &story{t: t, schema: x, issued: map[identity]issue{}, ended: map[identity]string{}, logs: map[int]string{}, states: map[int]string{}}
	told := strings.Split(transcript, "\n")
	for i, line := range strings.Split(strings.TrimSuffix(script, "\n"), "\n") {
		s.read(strings.Fields(line), strings.Fields(told[i]))
	}
	return s
}

// numbers are those among a line's words.
func numbers(words []string) []int {
	var all []int
	for _, w := range words {
		n := 0
		if _, err := fmt.Sscanf(w, "%d", &n); err == nil && w[0] <= '9' {
			all = append(all, n)
		}
	}
	return all
}

func four(n int) string { return string([]byte{byte(n >> 24), byte(n >> 16), byte(n >> 8), byte(n)}) }

func (s *story) read(line, told []string) {
	n := numbers(line)
	switch line[0] {
	case "table":
		s.table = api.Table{States: n[2], Start: n[3]}
	case "arg":
		s.args = append(s.args, n[1])
	case "row":
		row := api.Row{State: n[0], Proc: n[1], To: n[2], Result: api.Value{Kind: api.Void}}
		for _, a := range s.args {
			row.Args = append(row.Args, api.Value{Kind: api.Int, Int: a})
		}
		if n[3] == 1 {
			row.Result = api.Value{Kind: api.Int, Int: n[4]}
		}
		s.table.Rows, s.args = append(s.table.Rows, row), nil
	case "client":
		s.names = append(s.names, line[1])
	case "call", "ask":
		s.issue(line, n, told)
	case "outcomes":
		s.end(line[1], told)
	case "log":
		s.logs[n[0]] = strings.Join(told, " ")
	case "state":
		s.states[n[0]] = strings.Join(told, " ")
	}
}

func (s *story) addressOf(name string) int { return addressOf(slices.Index(s.names, name)) }

func (s *story) issue(line []string, n []int, told []string) {
	x := issue{port: n[0]}
	if line[0] == "call" {
		x.prog, x.vers, x.proc = n[1], n[2], n[3]
		for _, a := range s.args {
			x.args += four(a)
		}
		if told[0] != "none" {
			s.args = nil
		}
	} else {
		x.prog, x.vers, x.proc = 100000, 2, 1+slices.Index([]string{"set", "unset", "port", "dump"}, line[3])
		x.mapping = api.Mapping{Prog: n[1], Vers: n[2], Prot: n[3], Port: n[4]}
	}
	if told[0] != "call" {
		return
	}
	id := identity{s.addressOf(line[1]), numbers(told)[0]}
	if _, twice := s.issued[id]; twice {
		s.t.Fatalf("%v is given twice", id)
	}
	s.issued[id] = x
}

func (s *story) end(name string, told []string) {
	if told[0] == "none" {
		return
	}
	for _, part := range told[2:] {
		at := strings.Index(part, ":")
		id := identity{s.addressOf(name), numbers([]string{part[:at]})[0]}
		if _, is := s.issued[id]; !is || s.ended[id] != "" {
			s.t.Fatalf("%v: %s, where %v was issued, and had the outcome %q", id, part, s.issued[id], s.ended[id])
		}
		s.ended[id] = part[at+1:]
	}
}

// mapped is what a list of mappings tells of a question, and the list then.
func mapped(l []api.Mapping, proc int, x api.Mapping) (string, []api.Mapping) {
	same := func(y api.Mapping) bool { return y.Prog == x.Prog && y.Vers == x.Vers }
	i := slices.IndexFunc(l, func(y api.Mapping) bool { return same(y) && y.Prot == x.Prot })
	switch {
	case proc == 1 && i < 0 && (x.Prot == 6 || x.Prot == 17) && len(l) < 30:
		return four(1), append(slices.Clone(l), x)
	case proc == 2 && slices.ContainsFunc(l, same):
		return four(1), slices.DeleteFunc(slices.Clone(l), same)
	case proc == 3 && i >= 0:
		return four(l[i].Port), l
	case proc == 4:
		all := ""
		for _, y := range l {
			all += four(1) + four(y.Prog) + four(y.Vers) + four(y.Prot) + four(y.Port)
		}
		return all + four(0), l
	}
	return four(0), l
}

// checkLog is P1, P2 and P7: each identity once, as it was issued; the table, and a list of mappings, tell the same, call by call.
func (s *story) checkLog(port int) {
	var l []api.Mapping
	state := s.table.Start
	seen := map[identity]string{}
	for _, part := range strings.Fields(s.logs[port])[2:] {
		var id identity
		var proc, accept int
		var results string
		if k, err := fmt.Sscanf(strings.ReplaceAll(part, ":", " "), "%d %d %d %d %s", &id.address, &id.sequence, &proc, &accept, &results); k != 5 {
			s.t.Fatalf("%q: %v", part, err)
		}
		x, is := s.issued[id]
		if id.address >= 16000000 {
			s.strange++
			x, is = issue{port, 9, 3, 1, strangeArgs(id.address-16000000, id.sequence), api.Mapping{}}, true
		}
		if !is || seen[id] != "" || x.port != port || x.proc != proc || accept != api.Success {
			s.t.Fatalf("the log of %d has %s, where %v was issued, and stood there as %q", port, part, x, seen[id])
		}
		seen[id] = results
		want := ""
		if x.prog == 9 {
			state, _, want = machine.Step(s.schema, 9, 3, s.table, state, proc, x.args)
		} else {
			want, l = mapped(l, proc, x.mapping)
		}
		if bytesText(want) != results {
			s.t.Fatalf("the log of %d has %s, where %x is to be told", port, part, want)
		}
	}
	if want := fmt.Sprintf("state %d", state); s.states[port] != want {
		s.t.Fatalf("the port %d has the %s, not the %s", port, s.states[port], want)
	}
	for id, x := range s.issued {
		results, was := strings.CutPrefix(s.ended[id], "success:")
		if was && x.port == port && x.proc != 0 && results != seen[id] {
			s.t.Fatalf("%v: %s, and in the log of %d %q", id, s.ended[id], port, seen[id])
		}
	}
}

// TestWhole is P1, P2, P4, P6 and P7, read from scripts and transcripts alone, whatever is lost, doubled, late, and sent by strangers.
func TestWhole(t *testing.T) {
	r := rand.New(rand.NewSource(6))
	strange, logged, ended := 0, 0, 0
	for range 400 {
		script := networkScript(r)
		transcript, e, _ := world.Run(script)
		if e != api.OK {
			t.Fatalf("%q: %d", script, e)
		}
		s := readStory(t, script, transcript)
		for id := range s.issued {
			if s.ended[id] == "" {
				t.Fatalf("%q: %v has no outcome", script, id)
			}
		}
		for _, port := range []int{1, 111} {
			s.checkLog(port)
			logged += len(strings.Fields(s.logs[port])) - 2
		}
		strange += s.strange
		ended += len(s.ended)
		if t.Failed() {
			return
		}
	}
	if strange < 30 || logged < 1000 || ended < 4000 {
		t.Errorf("%d calls of strangers and %d in all were run, %d have ended", strange, logged, ended)
	}
}

// TestLookup is P7: whoever calls what a lookup has told comes to the service that was set there.
func TestLookup(t *testing.T) {
	wantTold(t, adder+`
		table 9 3 1 0 => ok
		arg 1 1 => ok
		arg 1 2 => ok
		row 0 1 0 1 3 => ok
		server 111 4 4 4000 200 => ok
		mapper 111 => ok
		server 2000 4 4 4000 200 => ok
		offer 2000 => ok
		client ann 7 1 4 2 8 4 => ok
		client bob 9 50 4 2 8 4 => ok
		ask bob 111 port 9 3 17 0 => call 50
		ask ann 111 set 9 3 17 2000 => call 1
		deliver 0 => server 111
		deliver 0 => server 111
		work 111 => done
		work 111 => done
		deliver 0 => client bob 50
		deliver 0 => client ann 1
		outcomes bob => outcomes 1 50:success:00000000
		outcomes ann => outcomes 1 1:success:00000001
		ask bob 111 port 9 3 17 0 => call 51
		deliver 0 => server 111
		work 111 => done
		deliver 0 => client bob 51
		outcomes bob => outcomes 1 51:success:000007d0
		arg 1 1 => ok
		arg 1 2 => ok
		call bob 2000 9 3 1 => call 52
		deliver 0 => server 2000
		work 2000 => done
		deliver 0 => client bob 52
		outcomes bob => outcomes 1 52:success:00000003
	`)
}

// TestOnce is P1 and P5: a call that comes twice is run once, answered again with the same bytes, and forgotten when its client will not send it again.
func TestOnce(t *testing.T) {
	wantTold(t, adder+`
		table 9 3 2 0 => ok
		row 0 2 1 0 void => ok
		row 1 2 0 0 void => ok
		server 1 1 4 400 100 => ok
		offer 1 => ok
		client ann 7 5 4 2 8 4 => ok
		call ann 1 9 3 2 => call 5
		double 0 => ok
		double 0 => ok
		double 0 => ok
		deliver 0 => server 1
		deliver 0 => server 1
		held 1 => held 1 1 100 queue 1
		work 1 => done
		work 1 => idle
		deliver 0 => server 1
		air => flying 3 131772>65537:88 65537>131772:24 65537>131772:24
		log 1 => log 1 131772:5:2:0:-
		state 1 => state 1
		drop 1 => ok
		deliver 1 => client ann 5
		call ann 1 9 3 2 => call 6
		deliver 1 => server 1
		held 1 => held 1 1 100 queue 1
		deliver 0 => server 1
		air => flying 0
		work 1 => done
		log 1 => log 2 131772:5:2:0:- 131772:6:2:0:-
		state 1 => state 0
	`)
}

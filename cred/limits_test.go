package cred_test

import (
	"encoding/binary"
	"math"
	"strings"
	"testing"

	"callbox/api"
	"callbox/cred"
)

// noWords are numbers one beyond the bounds of a word, and further.
func noWords() []int {
	return []int{-1, 1 << 32, math.MinInt, math.MaxInt, -1 << 32, 1<<32 + 1, -1<<31 - 1, 1 << 62}
}

// wordFields are where a sys has words.
func wordFields() map[string]func(s *api.Sys, n int) {
	out := map[string]func(s *api.Sys, n int){
		"stamp":  func(s *api.Sys, n int) { s.Stamp = n },
		"user":   func(s *api.Sys, n int) { s.User = n },
		"group":  func(s *api.Sys, n int) { s.Group = n },
		"groups": func(s *api.Sys, n int) { s.Groups = []int{n} },
	}
	for i, name := range []string{"first of 16", "", "", "fourth of 16", "", "", "", "", "", "", "", "", "", "", "", "last of 16"} {
		if name != "" {
			out[name] = func(s *api.Sys, n int) {
				s.Groups = make([]int, 16)
				s.Groups[i] = n
			}
		}
	}
	return out
}

// TestWords is K1 and K2: each word of a sys at its bounds, and one beyond.
func TestWords(t *testing.T) {
	for name, set := range wordFields() {
		for _, n := range []int{0, 1, 255, 1 << 31, 1<<31 - 1, 1<<32 - 1} {
			s := exampleSys()
			set(&s, n)
			wantSys(t, s, modelSys(s))
		}
		for _, n := range noWords() {
			s := exampleSys()
			set(&s, n)
			wantNoSys(t, name, s)
		}
	}
}

// TestMachine is K1 and K2: names of 0 to 255 bytes, of any bytes.
func TestMachine(t *testing.T) {
	every := make([]byte, 256)
	for i := range every {
		every[i] = byte(255 - i)
	}
	for n := range 256 {
		s := exampleSys()
		s.Machine = string(every[:n])
		wantSys(t, s, modelSys(s))
		s.Machine = string(every[256-n:])
		wantSys(t, s, modelSys(s))
	}
	for _, n := range []int{256, 257, 259, 260, 400, 1000, 1 << 20} {
		s := exampleSys()
		s.Machine = strings.Repeat("m", n)
		wantNoSys(t, "machine", s)
	}
	s := exampleSys()
	s.Machine = "\x00\xff\xc0é\n\"\x00"
	wantSys(t, s, modelSys(s))
}

// TestGroups is K1 and K2: 0 to 16 groups, one of them twice, and more.
func TestGroups(t *testing.T) {
	for n := range 17 {
		s := exampleSys()
		s.Groups = nil
		for i := range n {
			s.Groups = append(s.Groups, i/2*65537)
		}
		wantSys(t, s, modelSys(s))
	}
	for _, n := range []int{17, 18, 32, 400, 1 << 20} {
		s := exampleSys()
		s.Groups = make([]int, n)
		wantNoSys(t, "groups", s)
		if n < 1000 {
			wantNoSysBody(t, "groups", modelSys(s))
		}
	}
}

// TestGreatest is K4: the greatest bodies have 340 and 364 bytes.
func TestGreatest(t *testing.T) {
	s := api.Sys{Stamp: api.MaxWord, Machine: strings.Repeat("\xff", 255), User: api.MaxWord, Group: api.MaxWord}
	for range 16 {
		s.Groups = append(s.Groups, api.MaxWord)
	}
	m := api.Mark{Instance: 1 << 62, Sequence: api.MaxWord, Water: api.MaxWord, Sys: s}
	wantSys(t, s, modelSys(s))
	wantMark(t, m, modelMark(m))
	a, _ := cred.PrintSys(s)
	b, _ := cred.PrintMark(m)
	if len(a.Body) != 340 || len(b.Body) != 364 {
		t.Errorf("%d and %d bytes", len(a.Body), len(b.Body))
	}
}

// TestNumbers is K1 and K2: Instance, Sequence and Water at their bounds, and one beyond, in a field and in a body.
func TestNumbers(t *testing.T) {
	for at, set := range []func(m *api.Mark, n int){
		func(m *api.Mark, n int) { m.Instance = n },
		func(m *api.Mark, n int) { m.Sequence = n },
		func(m *api.Mark, n int) { m.Water = n },
	} {
		most := []int{1 << 62, 1<<32 - 1, 1<<32 - 1}[at]
		for _, n := range []int{0, 1, 2, 1<<31 - 1, 1 << 31, 1<<32 - 1, 1 << 32, 1<<32 + 1, 1<<62 - 1, 1 << 62, 1<<62 + 1, -1, -1 << 62, math.MaxInt, math.MinInt} {
			m := exampleMark()
			set(&m, n)
			body := []byte(numbers + sysBody)
			binary.BigEndian.PutUint64(body[8*at:], uint64(n))
			if n >= 1 && n <= most {
				wantMark(t, m, string(body))
				continue
			}
			wantNoMark(t, "number", m)
			wantNoMarkBody(t, "number", string(body))
		}
	}
}

// TestXid is K3: the Xid is the Sequence itself, not a number that is alike by 4 bytes.
func TestXid(t *testing.T) {
	for _, n := range []int{1, 2, 9, 1 << 31, 1<<32 - 1} {
		m := exampleMark()
		m.Sequence, m.Water = n, 1
		a, _ := cred.PrintMark(m)
		wantJudged(t, "the sequence", api.Call{Xid: n, Cred: a}, m)
		for _, xid := range []int{0, n - 1, n + 1, -n, n + 1<<32, n - 1<<32, math.MaxInt, math.MinInt} {
			wantRefused(t, "another xid", api.Call{Xid: xid, Cred: a}, api.BadCred)
		}
	}
	for _, xid := range []int{0, 8, -1, math.MaxInt, math.MinInt} {
		wantRefused(t, "no mark", api.Call{Xid: xid}, api.AuthOK)
		wantRefused(t, "no mark", api.Call{Xid: xid, Cred: sysAuth(sysBody)}, api.AuthOK)
	}
}

// TestWater is K3: the water is below the sequence, or at it, and not above.
func TestWater(t *testing.T) {
	for _, n := range []int{1, 2, 9, 1 << 31, 1<<32 - 1} {
		for _, water := range []int{1, n - 1, n, n + 1, 1<<32 - 1} {
			m := exampleMark()
			m.Sequence, m.Water = n, water
			a, e := cred.PrintMark(m)
			switch {
			case e != api.OK:
			case water <= n:
				wantJudged(t, "water", api.Call{Xid: n, Cred: a}, m)
			default:
				wantRefused(t, "water", api.Call{Xid: n, Cred: a}, api.BadCred)
			}
		}
	}
}

// TestOtherFields is K3: nothing of a call but its Xid, Cred and Verf is looked at.
func TestOtherFields(t *testing.T) {
	for _, n := range []int{0, 2, -1, 1 << 32, math.MaxInt, math.MinInt} {
		c := api.Call{Xid: 9, Rpc: n, Prog: n, Vers: n, Proc: n, Args: strings.Repeat("x", 1001)}
		wantRefused(t, "nobody", c, api.AuthOK)
		c.Cred = markAuth(numbers + sysBody)
		wantJudged(t, "mark", c, exampleMark())
		c.Verf = api.Auth{Flavor: n, Body: "x"}
		wantRefused(t, "verifier", c, api.BadVerf)
	}
}

// TestLongBodies: a body of any length is refused.
func TestLongBodies(t *testing.T) {
	for _, n := range []int{341, 344, 364, 365, 368, 400, 1 << 20} {
		zeros := strings.Repeat("\x00", n)
		wantNoSysBody(t, "noughts", zeros)
		wantNoMarkBody(t, "noughts", zeros)
		wantNoSysBody(t, "a sys and noughts", sysBody+zeros)
	}
}

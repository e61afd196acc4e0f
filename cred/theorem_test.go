package cred_test

import (
	"math/rand"
	"testing"

	"callbox/api"
	"callbox/cred"
)

// TestSysMade is K1, K2 and K4: of each sys, what the model says; what is printed is read as it.
func TestSysMade(t *testing.T) {
	r := rand.New(rand.NewSource(1))
	wrong := 0
	for range 20000 {
		s := makeSys(r)
		if r.Intn(2) == 0 {
			s = spoilSys(r, s)
		}
		if !modelSysMayBe(s) {
			wrong++
			wantNoSys(t, "made", s)
			continue
		}
		body := modelSys(s)
		wantSys(t, s, body)
		if len(body) > 340 || len(body)%4 != 0 {
			t.Fatalf("%v has %d bytes", s, len(body))
		}
	}
	if wrong < 5000 || wrong > 12000 {
		t.Errorf("%d of 20000 may not be", wrong)
	}
}

// TestMarkMade is K1, K2 and K4, of marks; a mark's body without its first 24 bytes is its Sys'.
func TestMarkMade(t *testing.T) {
	r := rand.New(rand.NewSource(2))
	wrong := 0
	for range 20000 {
		m := makeMark(r)
		if r.Intn(2) == 0 {
			m = spoilMark(r, m)
		}
		if !modelMarkMayBe(m) {
			wrong++
			wantNoMark(t, "made", m)
			continue
		}
		body := modelMark(m)
		wantMark(t, m, body)
		a, e := cred.PrintSys(m.Sys)
		if e != api.OK || a.Body != body[24:] || len(body) > 364 || len(body)%4 != 0 {
			t.Fatalf("%v: %d, %d bytes", m, e, len(body))
		}
	}
	if wrong < 5000 || wrong > 12000 {
		t.Errorf("%d of 20000 may not be", wrong)
	}
}

// parseWrong is what is wrong with what is read of a credential: it is what the model says, and prints as the credential.
func parseWrong(a api.Auth) string {
	s, e := cred.ParseSys(a)
	if want, f := modelParseSys(a); e != f || !sameSys(s, want) {
		return "ParseSys differs"
	}
	if again, f := cred.PrintSys(s); e == api.OK && (f != api.OK || again != a) {
		return "PrintSys of ParseSys differs"
	}
	m, e := cred.ParseMark(a)
	if want, f := modelParseMark(a); e != f || !sameMark(m, want) {
		return "ParseMark differs"
	}
	if again, f := cred.PrintMark(m); e == api.OK && (f != api.OK || again != a) {
		return "PrintMark of ParseMark differs"
	}
	return ""
}

// judgeWrong is what is wrong with what is told of a call. That there is a mark is asked in K4's way, too.
func judgeWrong(c api.Call) string {
	m, is, why := cred.Judge(c)
	want, wantIs, wantWhy := modelJudge(c)
	if is != wantIs || why != wantWhy || !sameMark(m, want) {
		return "Judge differs"
	}
	printed, e := cred.PrintMark(guessMark(c.Cred.Body))
	n := guessMark(c.Cred.Body)
	made := e == api.OK && printed == c.Cred && n.Sequence == c.Xid && n.Water <= n.Sequence
	if is != (made && c.Verf == api.Auth{}) {
		return "a mark is told that is none, or is not told"
	}
	return ""
}

// TestAuthMade is K2 and K4: of all kinds of credentials.
func TestAuthMade(t *testing.T) {
	r := rand.New(rand.NewSource(3))
	sys, marks, forms := 0, 0, 0
	for range 40000 {
		a := makeAuth(r)
		if wrong := parseWrong(a); wrong != "" {
			t.Fatalf("%d, %q: %s", a.Flavor, a.Body, wrong)
		}
		_, e := cred.ParseSys(a)
		_, f := cred.ParseMark(a)
		switch {
		case e == api.OK:
			sys++
		case f == api.OK:
			marks++
		case e == api.ErrCredForm || f == api.ErrCredForm:
			forms++
		}
	}
	if sys < 5000 || marks < 5000 || forms < 5000 {
		t.Errorf("%d, %d, %d", sys, marks, forms)
	}
}

// TestCallMade is K3 and K4: of all kinds of calls.
func TestCallMade(t *testing.T) {
	r := rand.New(rand.NewSource(4))
	marks, whys := 0, [4]int{}
	for range 40000 {
		c := makeCall(r)
		if wrong := judgeWrong(c); wrong != "" {
			t.Fatalf("%v: %s", c, wrong)
		}
		_, is, why := cred.Judge(c)
		whys[why]++
		if is {
			marks++
		}
	}
	if marks < 2000 || min(whys[0], whys[1]) < 5000 || min(whys[2], whys[3]) < 1000 {
		t.Errorf("%d marks, %v", marks, whys)
	}
}

func FuzzJudge(f *testing.F) {
	f.Add(9, 1296126539, numbers+sysBody, 0, "")
	f.Add(9, 1, sysBody, 0, "")
	f.Add(0, 0, "", 1, "x")
	f.Fuzz(func(t *testing.T, xid, flavor int, body string, verf int, text string) {
		c := api.Call{Xid: xid, Cred: api.Auth{Flavor: flavor, Body: body}, Verf: api.Auth{Flavor: verf, Body: text}}
		if wrong := judgeWrong(c); wrong != "" {
			t.Error(wrong)
		}
		for _, a := range []api.Auth{c.Cred, sysAuth(body), markAuth(body), markAuth(numbers + body)} {
			if wrong := parseWrong(a); wrong != "" {
				t.Error(wrong)
			}
		}
	})
}

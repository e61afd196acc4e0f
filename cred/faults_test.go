package cred_test

import (
	"math"
	"strings"
	"testing"

	"callbox/api"
	"callbox/cred"
)

// flavors that are neither nobody's, nor a sys', nor a mark's.
func otherFlavors() []int {
	return []int{2, 3, 6, 7, -1, 1296126538, 1296126540, 1 << 32, 1<<32 + 1, 1<<32 + 1296126539, -1296126539, math.MaxInt, math.MinInt}
}

// TestFlavors is K2: a credential of another flavor is refused for that, whatever its body is.
func TestFlavors(t *testing.T) {
	for _, body := range []string{"", "x", sysBody, numbers + sysBody} {
		for _, flavor := range append(otherFlavors(), 0, 1, 1296126539) {
			a := api.Auth{Flavor: flavor, Body: body}
			if s, e := cred.ParseSys(a); flavor != 1 && (e != api.ErrCredFlavor || !isZeroSys(s)) {
				t.Errorf("ParseSys of %d, %q: %v, %d", flavor, body, s, e)
			}
			if m, e := cred.ParseMark(a); flavor != 1296126539 && (e != api.ErrCredFlavor || !isZeroMark(m)) {
				t.Errorf("ParseMark of %d, %q: %v, %d", flavor, body, m, e)
			}
		}
	}
}

// TestCut is K2: no body's front is a body, and none goes on.
func TestCut(t *testing.T) {
	long := strings.Repeat("\xff", 4) + "\x00\x00\x00\xff" + strings.Repeat("m", 255) + "\x00" + strings.Repeat("\xff", 8) + "\x00\x00\x00\x10" + strings.Repeat("\xff", 64)
	for _, body := range []string{strings.Repeat("\x00", 20), sysBody, long} {
		wantSysRead(t, body)
		for n := range len(body) {
			wantNoSysBody(t, "cut", body[:n])
		}
		for _, more := range []string{"\x00", "\x00\x00", "\x00\x00\x00", "\x00\x00\x00\x00", "\x00\x00\x00\x01", body} {
			wantNoSysBody(t, "more", body+more)
		}
	}
	for n := range len(numbers) {
		wantNoMarkBody(t, "cut", numbers[:n])
	}
}

func wantSysRead(t *testing.T, body string) {
	t.Helper()
	s, e := cred.ParseSys(sysAuth(body))
	if e != api.OK {
		t.Fatalf("%q: %d", body, e)
	}
	wantSys(t, s, body)
}

// TestPadding is K2: each byte behind a machine's name is 0.
func TestPadding(t *testing.T) {
	behind := strings.Repeat("\x00", 12)
	for n := range 5 {
		front := "\x00\x00\x00\x07\x00\x00\x00" + string(rune(n)) + "abcd"[:n]
		pad := (4 - n%4) % 4
		wantSysRead(t, front+strings.Repeat("\x00", pad)+behind)
		for i := range pad {
			for _, b := range []string{"\x01", "\x80", "\xff", "0"} {
				wantNoSysBody(t, "padding", front+strings.Repeat("\x00", i)+b+strings.Repeat("\x00", pad-i-1)+behind)
			}
		}
	}
}

// TestLengths is K2: a length or a count beyond what is left, or beyond its bound, or less than what is there.
func TestLengths(t *testing.T) {
	for name, body := range map[string]string{
		"a length beyond":              strings.Replace(sysBody, "\x02ab", "\x20ab", 1),
		"a length to the end":          strings.Replace(sysBody, "\x02ab", "\x14ab", 1),
		"a length a byte more":         strings.Replace(sysBody, "\x02ab\x00\x00", "\x05ab\x00\x00", 1),
		"a length less":                strings.Replace(sysBody, "\x02ab", "\x01ab", 1),
		"a great length":               strings.Replace(sysBody, "\x00\x00\x00\x02ab", "\xff\xff\xff\xffab", 1),
		"a length by its highest byte": strings.Replace(sysBody, "\x00\x00\x00\x02ab", "\x80\x00\x00\x02ab", 1),
		"a count beyond":               sysBody[:23] + "\x02" + sysBody[24:],
		"a count less":                 sysBody[:23] + "\x00" + sysBody[24:],
		"a great count":                sysBody[:20] + "\xff\xff\xff\xff" + sysBody[24:],
		"a count by its highest byte":  sysBody[:20] + "\x80\x00\x00\x01" + sysBody[24:],
		"256 bytes":                    "\x00\x00\x00\x07\x00\x00\x01\x00" + strings.Repeat("m", 256) + strings.Repeat("\x00", 12),
		"17 groups":                    sysBody[:23] + "\x11" + strings.Repeat("\x00", 4*17),
	} {
		wantNoSysBody(t, name, body)
	}
}

// TestOneAsTheOther is K2: a mark's body is no sys' here, nor a sys' a mark's.
func TestOneAsTheOther(t *testing.T) {
	if s, e := cred.ParseSys(sysAuth(numbers + sysBody)); e != api.ErrCredForm || !isZeroSys(s) {
		t.Errorf("%v, %d", s, e)
	}
	wantNoMarkBody(t, "a sys' body", sysBody)
	wantNoMarkBody(t, "a mark's body twice", numbers+numbers+sysBody)
	wantRefused(t, "a mark's as a sys'", api.Call{Xid: 9, Cred: sysAuth(numbers + sysBody)}, api.BadCred)
	wantRefused(t, "a sys' as a mark's", api.Call{Xid: 9, Cred: markAuth(sysBody)}, api.BadCred)
}

// TestBentBytes is K2 and K4: with any byte another one, a body is refused, or is that of another one alone.
func TestBentBytes(t *testing.T) {
	body := numbers + sysBody
	told, refused := 0, 0
	for i := range len(body) {
		for b := range 256 {
			bent := body[:i] + string([]byte{byte(b)}) + body[i+1:]
			m, e := cred.ParseMark(markAuth(bent))
			if e != api.OK {
				wantNoMarkBody(t, "bent", bent)
				refused++
				continue
			}
			if sameMark(m, exampleMark()) != (bent == body) {
				t.Errorf("%q is told as %v", bent, m)
			}
			wantMark(t, m, bent)
			told++
		}
	}
	if told < 8000 || refused < 4000 {
		t.Errorf("%d told, %d refused", told, refused)
	}
}

// TestCred is K3: what is asked of each flavor's credential.
func TestCred(t *testing.T) {
	for name, c := range map[string]struct {
		cred api.Auth
		why  int
	}{
		"nobody":             {api.Auth{}, api.AuthOK},
		"nobody, a body":     {api.Auth{Body: "x"}, api.BadCred},
		"nobody, four bytes": {api.Auth{Body: "\x00\x00\x00\x00"}, api.BadCred},
		"nobody, a sys":      {api.Auth{Body: sysBody}, api.BadCred},
		"sys":                {sysAuth(sysBody), api.AuthOK},
		"sys, empty":         {sysAuth(""), api.BadCred},
		"sys, cut":           {sysAuth(sysBody[:24]), api.BadCred},
		"sys, more":          {sysAuth(sysBody + "\x00\x00\x00\x00"), api.BadCred},
		"mark, empty":        {markAuth(""), api.BadCred},
		"mark, cut":          {markAuth(numbers + sysBody[:24]), api.BadCred},
		"mark, more":         {markAuth(numbers + sysBody + "\x00\x00\x00\x00"), api.BadCred},
	} {
		wantRefused(t, name, api.Call{Xid: 9, Cred: c.cred}, c.why)
	}
	for _, flavor := range otherFlavors() {
		for _, body := range []string{"", "x", sysBody, numbers + sysBody} {
			wantRefused(t, "another flavor", api.Call{Xid: 9, Cred: api.Auth{Flavor: flavor, Body: body}}, api.RejectedCred)
		}
	}
}

// TestVerf is K3: the verifier is nobody's, without a body.
func TestVerf(t *testing.T) {
	for _, a := range []api.Auth{{}, sysAuth(sysBody), markAuth(numbers + sysBody)} {
		for _, body := range []string{"", "x", "\x00\x00\x00\x00", sysBody, numbers + sysBody} {
			for _, flavor := range append(otherFlavors(), 0, 1, 1296126539) {
				if flavor != 0 || body != "" {
					wantRefused(t, "verifier", api.Call{Xid: 9, Cred: a, Verf: api.Auth{Flavor: flavor, Body: body}}, api.BadVerf)
				}
			}
		}
	}
}

// TestJudgeFirst is K3: where several reasons apply, the credential's is told.
func TestJudgeFirst(t *testing.T) {
	bad := []api.Auth{{Flavor: 1}, {Body: "x"}, {Flavor: 2, Body: "x"}, markAuth(numbers + sysBody), sysAuth(sysBody)}
	for _, v := range bad {
		for name, c := range map[string]struct {
			call api.Call
			why  int
		}{
			"nobody":          {api.Call{Cred: api.Auth{Body: "x"}}, api.BadCred},
			"sys":             {api.Call{Cred: sysAuth("")}, api.BadCred},
			"mark":            {api.Call{Xid: 9, Cred: markAuth(sysBody)}, api.BadCred},
			"xid":             {api.Call{Xid: 8, Cred: markAuth(numbers + sysBody)}, api.BadCred},
			"water":           {api.Call{Xid: 9, Cred: markAuth(numbers[:23] + "\x0a" + sysBody)}, api.BadCred},
			"water and xid":   {api.Call{Xid: 10, Cred: markAuth(numbers[:23] + "\x0a" + sysBody)}, api.BadCred},
			"another flavor":  {api.Call{Cred: api.Auth{Flavor: 2}}, api.RejectedCred},
			"another, a body": {api.Call{Cred: api.Auth{Flavor: -1, Body: "x"}}, api.RejectedCred},
		} {
			c.call.Verf = v
			wantRefused(t, name, c.call, c.why)
		}
	}
}

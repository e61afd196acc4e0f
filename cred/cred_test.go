package cred_test

import (
	"reflect"
	"strings"
	"testing"

	"callbox/api"
	"callbox/cred"
)

const (
	sysBody = "\x00\x00\x00\x07" + "\x00\x00\x00\x02ab\x00\x00" + "\x00\x00\x00\x01" + "\x00\x00\x00\x02" + "\x00\x00\x00\x01" + "\x00\x00\x00\x03"
	numbers = "\x00\x00\x00\x00\x00\x00\x00\x05" + "\x00\x00\x00\x00\x00\x00\x00\x09" + "\x00\x00\x00\x00\x00\x00\x00\x08"
)

func exampleSys() api.Sys {
	return api.Sys{Stamp: 7, Machine: "ab", User: 1, Group: 2, Groups: []int{3}}
}

func exampleMark() api.Mark {
	return api.Mark{Instance: 5, Sequence: 9, Water: 8, Sys: exampleSys()}
}

func sysAuth(body string) api.Auth  { return api.Auth{Flavor: 1, Body: body} }
func markAuth(body string) api.Auth { return api.Auth{Flavor: 1296126539, Body: body} }

// sameSys takes a list without elements as what it is, nil or not.
func sameSys(a, b api.Sys) bool {
	if len(a.Groups) == 0 && len(b.Groups) == 0 {
		a.Groups, b.Groups = nil, nil
	}
	return reflect.DeepEqual(a, b)
}

func sameMark(a, b api.Mark) bool {
	sys := sameSys(a.Sys, b.Sys)
	a.Sys, b.Sys = api.Sys{}, api.Sys{}
	return sys && reflect.DeepEqual(a, b)
}

func isZeroSys(s api.Sys) bool   { return sameSys(s, api.Sys{}) }
func isZeroMark(m api.Mark) bool { return sameMark(m, api.Mark{}) }

// wantSys: this sys has this body, and is read of it.
func wantSys(t *testing.T, s api.Sys, body string) {
	t.Helper()
	a, e := cred.PrintSys(s)
	if e != api.OK || a != sysAuth(body) {
		t.Errorf("PrintSys(%v): %q, %d", s, a.Body, e)
	}
	if got, e := cred.ParseSys(sysAuth(body)); e != api.OK || !sameSys(got, s) {
		t.Errorf("ParseSys(%q): %v, %d", body, got, e)
	}
}

func wantMark(t *testing.T, m api.Mark, body string) {
	t.Helper()
	a, e := cred.PrintMark(m)
	if e != api.OK || a != markAuth(body) {
		t.Errorf("PrintMark(%v): %q, %d", m, a.Body, e)
	}
	if got, e := cred.ParseMark(markAuth(body)); e != api.OK || !sameMark(got, m) {
		t.Errorf("ParseMark(%q): %v, %d", body, got, e)
	}
}

// wantNoSys: a sys that may not be; nor may a mark with it.
func wantNoSys(t *testing.T, name string, s api.Sys) {
	t.Helper()
	if a, e := cred.PrintSys(s); e != api.ErrCredField || a != (api.Auth{}) {
		t.Errorf("%s: PrintSys: %v, %d", name, a, e)
	}
	m := exampleMark()
	m.Sys = s
	wantNoMark(t, name, m)
}

func wantNoMark(t *testing.T, name string, m api.Mark) {
	t.Helper()
	if a, e := cred.PrintMark(m); e != api.ErrCredField || a != (api.Auth{}) {
		t.Errorf("%s: PrintMark: %v, %d", name, a, e)
	}
}

// wantNoSysBody: it is that of no sys, and behind a mark's numbers of no mark.
func wantNoSysBody(t *testing.T, name, body string) {
	t.Helper()
	if s, e := cred.ParseSys(sysAuth(body)); e != api.ErrCredForm || !isZeroSys(s) {
		t.Errorf("%s: ParseSys(%q): %v, %d", name, body, s, e)
	}
	wantNoMarkBody(t, name, numbers+body)
}

func wantNoMarkBody(t *testing.T, name, body string) {
	t.Helper()
	if m, e := cred.ParseMark(markAuth(body)); e != api.ErrCredForm || !isZeroMark(m) {
		t.Errorf("%s: ParseMark(%q): %v, %d", name, body, m, e)
	}
}

// wantRefused: Judge tells why, and nothing else.
func wantRefused(t *testing.T, name string, c api.Call, why int) {
	t.Helper()
	if m, is, got := cred.Judge(c); is || got != why || !isZeroMark(m) {
		t.Errorf("%s: Judge: %v, %v, %d, want %d", name, m, is, got, why)
	}
}

func wantJudged(t *testing.T, name string, c api.Call, mark api.Mark) {
	t.Helper()
	if m, is, why := cred.Judge(c); !is || why != api.AuthOK || !sameMark(m, mark) {
		t.Errorf("%s: Judge: %v, %v, %d", name, m, is, why)
	}
}

// TestExamples are the chapter's, one by one.
func TestExamples(t *testing.T) {
	wantSys(t, exampleSys(), sysBody)
	wantMark(t, exampleMark(), numbers+sysBody)
	if len(sysBody) != 28 {
		t.Errorf("%d bytes", len(sysBody))
	}
	s := exampleSys()
	s.Groups = make([]int, 17)
	wantNoSys(t, "17 groups", s)
	s = exampleSys()
	s.Machine = strings.Repeat("m", 256)
	wantNoSys(t, "256 bytes", s)
	s = exampleSys()
	s.User = -1
	wantNoSys(t, "user -1", s)
	m := exampleMark()
	m.Instance = 0
	wantNoMark(t, "instance 0", m)
	m = exampleMark()
	m.Water = 1 << 32
	wantNoMark(t, "water 2^32", m)
	if s, e := cred.ParseSys(markAuth(numbers + sysBody)); e != api.ErrCredFlavor || !isZeroSys(s) {
		t.Errorf("%v, %d", s, e)
	}
	wantNoMarkBody(t, "without its last byte", (numbers + sysBody)[:51])
	wantNoMarkBody(t, "a byte more", numbers+sysBody+"\x00")
}

// TestJudgeExamples are the chapter's.
func TestJudgeExamples(t *testing.T) {
	a := markAuth(numbers + sysBody)
	wantJudged(t, "xid 9", api.Call{Xid: 9, Cred: a}, exampleMark())
	wantRefused(t, "xid 8", api.Call{Xid: 8, Cred: a}, api.BadCred)
	high := markAuth(numbers[:23] + "\x0a" + sysBody)
	wantRefused(t, "water 10", api.Call{Xid: 9, Cred: high}, api.BadCred)
	wantRefused(t, "verifier 1", api.Call{Xid: 9, Cred: a, Verf: api.Auth{Flavor: 1}}, api.BadVerf)
	wantRefused(t, "without both", api.Call{}, api.AuthOK)
	wantRefused(t, "flavor 2", api.Call{Cred: api.Auth{Flavor: 2}, Verf: api.Auth{Flavor: 1}}, api.RejectedCred)
}

// TestFields is K1: each field has its own place, and each body its order.
func TestFields(t *testing.T) {
	s := api.Sys{Stamp: 0x01020304, Machine: "xyz", User: 0x05060708, Group: 0x090a0b0c, Groups: []int{0xfffefdfc, 0, 0x0d0e0f10}}
	body := "\x01\x02\x03\x04" + "\x00\x00\x00\x03xyz\x00" + "\x05\x06\x07\x08" + "\x09\x0a\x0b\x0c" +
		"\x00\x00\x00\x03" + "\xff\xfe\xfd\xfc" + "\x00\x00\x00\x00" + "\x0d\x0e\x0f\x10"
	wantSys(t, s, body)
	m := api.Mark{Instance: 0x0102030405060708, Sequence: 0x11121314, Water: 0x21222324, Sys: s}
	wantMark(t, m, "\x01\x02\x03\x04\x05\x06\x07\x08"+"\x00\x00\x00\x00\x11\x12\x13\x14"+"\x00\x00\x00\x00\x21\x22\x23\x24"+body)
}

// TestZeroSys is K1: a sys that says nothing may be, with a nil list and with one without elements.
func TestZeroSys(t *testing.T) {
	wantSys(t, api.Sys{}, strings.Repeat("\x00", 20))
	wantSys(t, api.Sys{Groups: []int{}}, strings.Repeat("\x00", 20))
	one := strings.Repeat("\x00\x00\x00\x00\x00\x00\x00\x01", 3)
	wantMark(t, api.Mark{Instance: 1, Sequence: 1, Water: 1}, one+strings.Repeat("\x00", 20))
}

// TestWaterAbove is K1 and K2: a mark whose water is above its sequence may be; only Judge refuses it.
func TestWaterAbove(t *testing.T) {
	m := exampleMark()
	m.Water = 10
	wantMark(t, m, numbers[:23]+"\x0a"+sysBody)
}

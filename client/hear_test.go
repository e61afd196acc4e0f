package client_test

import (
	"math"
	"strings"
	"testing"

	"callbox/api"
	"callbox/client"
	"callbox/message"
)

// TestWhatRepliesSay is C5's second half, with the chapter's third example: what is not named is zero.
func TestWhatRepliesSay(t *testing.T) {
	long := strings.Repeat("wxyz", 250)
	verf := api.Auth{Flavor: 1, Body: "abcd"}
	for _, x := range []struct {
		reply api.Reply
		want  api.Outcome
	}{
		{api.Reply{}, api.Outcome{Status: api.OutSuccess}},
		{api.Reply{Results: "wxyz"}, api.Outcome{Status: api.OutSuccess, Results: "wxyz"}},
		{api.Reply{Results: long, Verf: verf}, api.Outcome{Status: api.OutSuccess, Results: long}},
		{api.Reply{Accept: 1}, api.Outcome{Status: api.OutAccept, Accept: 1}},
		{api.Reply{Accept: 2, Low: 2, High: 4}, api.Outcome{Status: api.OutAccept, Accept: 2, Low: 2, High: 4}},
		{api.Reply{Accept: 2, Low: 1<<32 - 1, Verf: verf}, api.Outcome{Status: api.OutAccept, Accept: 2, Low: 1<<32 - 1}},
		{api.Reply{Accept: 3}, api.Outcome{Status: api.OutAccept, Accept: 3}},
		{api.Reply{Accept: 4}, api.Outcome{Status: api.OutAccept, Accept: 4}},
		{api.Reply{Accept: 5}, api.Outcome{Status: api.OutRefused}},
		{api.Reply{Accept: 5, Verf: verf}, api.Outcome{Status: api.OutRefused}},
		{api.Reply{Denied: true}, api.Outcome{Status: api.OutDenied}},
		{api.Reply{Denied: true, Low: 2, High: 3}, api.Outcome{Status: api.OutDenied, Low: 2, High: 3}},
		{api.Reply{Denied: true, Reject: 1}, api.Outcome{Status: api.OutDenied, Reject: 1}},
		{api.Reply{Denied: true, Reject: 1, Why: 5}, api.Outcome{Status: api.OutDenied, Reject: 1, Why: 5}},
		{api.Reply{Denied: true, Reject: 1, Why: 14}, api.Outcome{Status: api.OutDenied, Reject: 1, Why: 14}},
	} {
		for _, at := range []int{0, 7} {
			c := example(t)
			wantCall(t, c, there, "abcd", 9)
			wantCall(t, c, there, "abcd", 10)
			until(t, c, at)
			x.reply.Xid, x.want.Sequence, x.want.At = 10, 10, at
			p := replyFrom(t, there, x.reply)
			wantHeard(t, c, p, 10)
			wantWaiting(t, c, 9, 9)
			wantHeard(t, c, p, 0)
			wantDone(t, c, x.want)
		}
	}
}

// TestWhatIsNotHeard is C5's first half, with the chapter's third example: 0, and all stays as it was.
func TestWhatIsNotHeard(t *testing.T) {
	good := success(t, 9).Data
	call, _ := message.PrintCall(api.Call{Xid: 9, Rpc: 2})
	version := call[:11] + "\x03" + call[12:]
	for name, p := range map[string]api.Packet{
		"from another":             {From: there + 1, To: home, Data: good},
		"from another host":        {From: there + 65536, To: home, Data: good},
		"from itself":              {From: home, To: home, Data: good},
		"from nowhere":             {From: 0, To: home, Data: good},
		"from below":               {From: -there, To: home, Data: good},
		"from far":                 {From: there + 1<<32, To: home, Data: good},
		"from the greatest":        {From: math.MaxInt, To: home, Data: good},
		"from where the other is":  {From: there + 7, To: home, Data: good},
		"to another":               {From: there, To: home + 1, Data: good},
		"to nowhere":               {From: there, To: 0, Data: good},
		"to where it called":       {From: there, To: there, Data: good},
		"to far":                   {From: there, To: home + 1<<32, Data: good},
		"the wrong way":            {From: home, To: there, Data: good},
		"the next one":             success(t, 11),
		"the one ahead":            success(t, 8),
		"the 0th":                  success(t, 0),
		"the greatest":             success(t, 1<<32-1),
		"the other one's":          success(t, 10),
		"a call":                   {From: there, To: home, Data: call},
		"a call of version 3":      {From: there, To: home, Data: version},
		"a byte":                   {From: there, To: home, Data: "x"},
		"nothing":                  {From: there, To: home},
		"a byte less":              {From: there, To: home, Data: good[:len(good)-1]},
		"a byte more":              {From: there, To: home, Data: good + "\x00"},
		"another Accept":           {From: there, To: home, Data: good[:23] + "\x06"},
		"results that are too few": {From: there, To: home, Data: good + "abc"},
		"results that are long":    {From: there, To: home, Data: good + strings.Repeat("\x00", 1004)},
		"very long":                {From: there, To: home, Data: good + strings.Repeat("\x00", 1<<20)},
	} {
		t.Run(name, func(t *testing.T) {
			c := example(t)
			wantCall(t, c, there, "abcd", 9)
			wantCall(t, c, there+7, "abcd", 10)
			wantDue(t, c, 9, 10)
			until(t, c, 1)
			wantHeard(t, c, p, 0)
			wantAsBefore(t, c)
		})
	}
}

// wantAsBefore: a client that has issued 9 and 10 at the time 0, and given their requests, goes on as if it had heard nothing.
func wantAsBefore(t *testing.T, c *client.Client) {
	t.Helper()
	wantDone(t, c)
	wantWaiting(t, c, 9, 9, 10)
	wantGuess(t, c, 0)
	wantDue(t, c)
	wantRefused(t, c, there, "", api.ErrClientWindow)
	until(t, c, 2)
	wantDue(t, c, 9, 10)
	until(t, c, 22)
	wantDone(t, c, timeout(9, 22), timeout(10, 22))
	wantWaiting(t, c, 11)
	wantCall(t, c, there, "", 11)
}

// TestTheTimeOfAReply is C4 and C5: up to the tick at which the time is its end a reply finds the call, from that on nobody.
func TestTheTimeOfAReply(t *testing.T) {
	for at := range 30 {
		c := example(t)
		wantCall(t, c, there, "", 9)
		until(t, c, at)
		if at < 22 {
			wantHeard(t, c, success(t, 9), 9)
			wantDone(t, c, api.Outcome{Sequence: 9, Status: api.OutSuccess, At: at})
		} else {
			wantHeard(t, c, success(t, 9), 0)
			wantDone(t, c, timeout(9, 22))
		}
		wantDue(t, c)
		until(t, c, 60)
		wantDue(t, c)
		wantDone(t, c)
	}
}

// TestARepliedCallIsNotSent: nothing of it goes behind its outcome, and its late replies find nobody.
func TestARepliedCallIsNotSent(t *testing.T) {
	c := example(t)
	wantCall(t, c, there, "", 9)
	wantCall(t, c, there, "", 10)
	wantHeard(t, c, success(t, 9), 9)
	wantDue(t, c, 10)
	until(t, c, 2)
	wantHeard(t, c, success(t, 10), 10)
	wantDue(t, c)
	wantCall(t, c, there, "", 11)
	wantHeard(t, c, success(t, 9), 0)
	wantHeard(t, c, success(t, 10), 0)
	wantDue(t, c, 11)
}

// TestOneXidAndTwoServers: calls to several servers are told apart by where a reply is from.
func TestOneXidAndTwoServers(t *testing.T) {
	c := example(t)
	wantCall(t, c, there, "", 9)
	wantCall(t, c, there+1, "", 10)
	wantHeard(t, c, replyFrom(t, there+1, api.Reply{Xid: 9}), 0)
	wantHeard(t, c, replyFrom(t, there, api.Reply{Xid: 10}), 0)
	wantHeard(t, c, replyFrom(t, there+1, api.Reply{Xid: 10}), 10)
	wantHeard(t, c, replyFrom(t, there, api.Reply{Xid: 9}), 9)
}

// TestCallToItself: an address may be the client's own.
func TestCallToItself(t *testing.T) {
	c := example(t)
	wantCall(t, c, home, "", 9)
	wantDue(t, c, 9)
	wantHeard(t, c, replyFrom(t, home, api.Reply{Xid: 9}), 9)
}

// TestMeter is C5's last sentence: what is heard is how long the only request of a call is out.
func TestMeter(t *testing.T) {
	config := exampleConfig()
	config.Window = 64
	c := clientOf(t, config)
	wantCall(t, c, there, "", 9) // its request is given late
	until(t, c, 1)
	wantDue(t, c, 9)
	until(t, c, 5)
	wantGuess(t, c, 0)
	wantHeard(t, c, success(t, 9), 9)
	wantGuess(t, c, 12) // 4: mean 4, spread 2

	wantCall(t, c, there, "", 10) // it is given twice
	wantDue(t, c, 10)
	until(t, c, 8)
	wantDue(t, c, 10)
	wantHeard(t, c, success(t, 10), 10)
	wantGuess(t, c, 12)

	wantCall(t, c, there, "", 11) // it is not given at all
	wantHeard(t, c, success(t, 11), 11)
	wantGuess(t, c, 12)

	wantCall(t, c, there, "", 12) // sendings were skipped, one request was given
	until(t, c, 8+15)
	wantDue(t, c, 12)
	until(t, c, 8+16)
	wantHeard(t, c, replyFrom(t, there, api.Reply{Xid: 12, Accept: 5}), 12)
	wantGuess(t, c, 13) // 1: mean 3.625, spread 2.25, so 12.625

	wantCall(t, c, there, "", 13) // nobody answers
	wantDue(t, c, 13)
	until(t, c, 60)
	wantGuess(t, c, 13)

	wantCall(t, c, there, "", 14) // it is answered at once
	wantDue(t, c, 14)
	wantHeard(t, c, replyFrom(t, there, api.Reply{Xid: 14, Denied: true}), 14)
	wantGuess(t, c, 14) // 0: mean 3.171875, spread 2.59375, so 13.546875
}

package client

import (
	"callbox/api"
	"callbox/cred"
	"callbox/message"
	"callbox/pace"
)

// rpcVersion is the version of calls that is spoken here.
const rpcVersion = 2

// call is one that waits.
type call struct {
	sequence, to int
	request      func(water int) api.Packet
	sendings     int // how many of them are done, given or skipped
	due          int // when the next one is
	end          int
	times, last  int // how often its request was given, and when it was last
}

// requester makes what is sent of a call, as often as it is sent: each time it is the same but for the water.
func requester(from api.ClientConfig, to int, asked api.Call) func(water int) api.Packet {
	return func(water int) api.Packet {
		// Neither is refused: the config and the call were looked at ahead, and while the call waits, the water is at most its sequence.
		marked := asked
		marked.Cred, _ = cred.PrintMark(api.Mark{Instance: from.Instance, Sequence: asked.Xid, Water: water, Sys: from.Sys})
		data, _ := message.PrintCall(marked)
		return api.Packet{From: from.Address, To: to, Data: data}
	}
}

func (x *call) isDue(p api.Pace, now int) bool { return x.sendings < p.Tries && x.due <= now }

// give notes that the request is given now. All sendings that are due are done with it: those that were missed are not made up for.
func (x *call) give(p api.Pace, now int) {
	for x.isDue(p, now) {
		x.due += pace.Wait(p, x.sendings)
		x.sendings++
	}
	x.times++
	x.last = now
}

// outcomeOf is what a reply says of its call.
func outcomeOf(r api.Reply) api.Outcome {
	switch {
	case r.Denied:
		return api.Outcome{Status: api.OutDenied, Reject: r.Reject, Why: r.Why, Low: r.Low, High: r.High}
	case r.Accept == api.Success:
		return api.Outcome{Status: api.OutSuccess, Results: r.Results}
	case r.Accept == api.SystemErr:
		return api.Outcome{Status: api.OutRefused}
	}
	return api.Outcome{Status: api.OutAccept, Accept: r.Accept, Low: r.Low, High: r.High}
}

package world

import (
	"strconv"

	"callbox/api"
)

func (w *world) flying(words) string {
	var parts []string
	for _, p := range w.air.Flying() {
		parts = append(parts, strconv.Itoa(p.From)+">"+joined(p.To, len(p.Data)))
	}
	return listed("flying", parts)
}

func (w *world) outcomes(l words) string {
	i := w.named(l[1])
	if i < 0 {
		return none
	}
	var parts []string
	for _, o := range w.callers[i].client.Done() {
		parts = append(parts, strconv.Itoa(o.Sequence)+":"+outcomeText(o))
	}
	return listed("outcomes", parts)
}

// outcomeText is how an outcome is told.
func outcomeText(o api.Outcome) string {
	switch o.Status {
	case api.OutSuccess:
		return "success:" + hexOf(o.Results)
	case api.OutTimeout:
		return "timeout"
	case api.OutRefused:
		return "refused"
	case api.OutAccept:
		return "accept:" + joined(o.Accept)
	}
	return "denied:" + joined(o.Reject, o.Why)
}

func (w *world) log(l words) string {
	x := w.sites[l.number(1)]
	if x == nil {
		return none
	}
	var parts []string
	for _, y := range x.server.Log() {
		parts = append(parts, joined(y.Who.Address, y.Sequence, y.Proc, y.Accept)+":"+hexOf(y.Results))
	}
	return listed("log", parts)
}

func (w *world) held(l words) string {
	x := w.sites[l.number(1)]
	if x == nil {
		return none
	}
	clients, entries, bytes := x.server.Held()
	return counted("held", clients) + " " + strconv.Itoa(entries) + " " + strconv.Itoa(bytes) + " " + counted("queue", x.server.Queue())
}

func (w *world) state(l words) string {
	x := w.sites[l.number(1)]
	if x == nil || x.machine == nil {
		return none
	}
	return counted("state", x.machine.State())
}

package world

import (
	"testing"

	"callbox/api"
)

// TestOutcomeText is D2: how each outcome is told. (Servers deny no call that a client makes here, so no script comes to that.)
func TestOutcomeText(t *testing.T) {
	for _, c := range []struct {
		o    api.Outcome
		want string
	}{
		{api.Outcome{Status: api.OutSuccess, Results: "\x00\x01\xfe\xff"}, "success:0001feff"},
		{api.Outcome{Status: api.OutSuccess}, "success:-"},
		{api.Outcome{Status: api.OutTimeout}, "timeout"},
		{api.Outcome{Status: api.OutRefused}, "refused"},
		{api.Outcome{Status: api.OutAccept, Accept: 2, Low: 7, High: 8}, "accept:2"},
		{api.Outcome{Status: api.OutDenied, Reject: 1, Why: 5}, "denied:1:5"},
		{api.Outcome{Status: api.OutDenied, Low: 2, High: 3}, "denied:0:0"},
	} {
		if got := outcomeText(c.o); got != c.want {
			t.Errorf("outcomeText(%v) = %q", c.o, got)
		}
	}
}

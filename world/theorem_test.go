package world_test

import (
	"math/rand"
	"regexp"
	"strings"
	"testing"

	"callbox/api"
	"callbox/world"
)

// wantAsModel: a script is told, or refused, as the model has it. What was told is told.
func wantAsModel(t *testing.T, script string) string {
	t.Helper()
	want, e, at := modelRun(script)
	if e == api.OK {
		wantRun(t, script, want)
	} else {
		wantRefused(t, script, e, at)
	}
	if t.Failed() {
		t.Fatalf("the script is %q", script)
	}
	return want
}

var digits = regexp.MustCompile(`[0-9]+`)

// count counts the kinds of lines and of what they tell, numbers and parts left out.
func count(seen map[string]int, script, transcript string) {
	lines := strings.Split(script, "\n")
	for i, told := range strings.Split(strings.TrimSuffix(transcript, "\n"), "\n") {
		if transcript == "" {
			seen["refused"]++
			return
		}
		front := strings.Fields(lines[i])[0] + " "
		words := strings.Fields(told)
		seen[front+words[0]]++
		if words[0] == "error" {
			seen[front+"error "+words[1]]++
		}
		if words[0] == "client" {
			seen[front+"client "+map[bool]string{true: "0", false: "n"}[words[2] == "0"]]++
		}
		if words[0] == "outcomes" {
			for _, part := range words[2:] {
				seen[regexp.MustCompile(`^[0-9]+:(success|accept:[0-9]|[a-z]+).*`).ReplaceAllString(part, "$1")]++
			}
		}
	}
}

// wantSeen: scripts have come to all these often enough.
func wantSeen(t *testing.T, seen map[string]int, least int, kinds ...string) {
	t.Helper()
	for _, kind := range kinds {
		if seen[kind] < least {
			t.Errorf("%s: %d times only", kind, seen[kind])
		}
	}
}

// TestAnyScripts is D1 and D2: scripts of lines of any form.
func TestAnyScripts(t *testing.T) {
	r := rand.New(rand.NewSource(1))
	seen := map[string]int{}
	for range 1500 {
		script := anyScript(r)
		count(seen, script, wantAsModel(t, script))
	}
	wantSeen(t, seen, 40, "refused", "| ok", "compile types", "compile error", "stub none", "stub lines", "value none", "value bytes", "value error 70",
		"bytes none", "bytes value", "bytes error 20", "bytes error 21", "bytes error 23", "bytes error 25", "bytes error 93", "arg none", "arg ok", "arg error 70", "table none", "table ok",
		"row none", "row ok", "row error 70", "server there", "server error 1", "server error 200", "server ok", "offer none", "offer error 190", "offer error 191", "mapper none", "mapper ok", "mapper error 181",
		"client there", "client error 170", "client ok", "call none", "call error 1", "call call", "call error 171", "ask none", "ask error 1", "ask error 171", "ask call",
		"tick time", "deliver error 130", "deliver server", "deliver nobody", "drop error 130", "drop ok", "double error 130", "double ok",
		"stray none", "stray ok", "work none", "work idle", "air flying", "outcomes none", "outcomes outcomes", "log none", "log log", "held none", "held held", "state none")
	wantSeen(t, seen, 15, "deliver client n", "deliver client 0", "work done", "offer ok", "offer error 181", "state state", "value error 72")
}

// TestNetworkScripts is D2 and D3: what clients, servers and the air tell, in scripts where most calls come to something.
func TestNetworkScripts(t *testing.T) {
	r := rand.New(rand.NewSource(2))
	seen := map[string]int{}
	for range 500 {
		script := networkScript(r)
		count(seen, script, wantAsModel(t, script))
	}
	wantSeen(t, seen, 200, "success", "timeout", "refused", "accept:1", "accept:2", "accept:3", "accept:4", "call call", "call none", "call error 171", "ask call", "deliver server", "deliver client n", "deliver client 0", "deliver nobody", "work done", "work idle", "state state")
	wantSeen(t, seen, 20, "call error 172")
}

// TestFront is D3: what the first lines tell is the beginning of what all tell.
func TestFront(t *testing.T) {
	r := rand.New(rand.NewSource(3))
	for n := range 24 {
		script := networkScript(r)
		if n%2 == 0 {
			script = anyScript(r)
		}
		whole, e, at := world.Run(script)
		lines := strings.SplitAfter(script, "\n")
		for i := range lines[:len(lines)-1] {
			front := strings.Join(lines[:i+1], "")
			s, e2, at2 := world.Run(front)
			switch {
			case e == api.OK || i+1 < at:
				if e2 != api.OK || at2 != 0 || strings.Count(s, "\n") != i+1 || e == api.OK && !strings.HasPrefix(whole, s) {
					t.Fatalf("the first %d lines of %q tell %q, %d, %d", i+1, script, s, e2, at2)
				}
			default:
				if s != "" || e2 != e || at2 != at {
					t.Fatalf("the first %d lines of %q tell %q, %d, %d, not %d, %d", i+1, script, s, e2, at2, e, at)
				}
			}
		}
	}
}

// TestAgain is D3: a script is told as it was, whatever was played between.
func TestAgain(t *testing.T) {
	r := rand.New(rand.NewSource(4))
	var scripts, told []string
	for range 40 {
		script := pick(r, anyScript, networkScript)(r)
		s, e, _ := world.Run(script)
		if e == api.OK {
			scripts, told = append(scripts, script), append(told, s)
		}
	}
	for i := range scripts {
		wantRun(t, scripts[len(scripts)-1-i], told[len(scripts)-1-i])
	}
}

// FuzzRun looks for scripts that are told otherwise than the model has it.
func FuzzRun(f *testing.F) {
	r := rand.New(rand.NewSource(5))
	for range 10 {
		f.Add(anyScript(r))
		f.Add(networkScript(r))
	}
	for _, form := range forms {
		f.Add(strings.Join(simple(form), " ") + "\n")
	}
	f.Fuzz(func(t *testing.T, script string) { wantAsModel(t, script) })
}

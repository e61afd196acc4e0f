package world_test

import (
	"math/rand"
	"runtime"
	"strings"
	"sync"
	"testing"
	"time"
	"unsafe"
	"weak"

	"callbox/api"
	"callbox/world"
)

// TestScriptIsNotKept: a script goes with the call that played it, whether its transcript stays or not.
func TestScriptIsNotKept(t *testing.T) {
	r := rand.New(rand.NewSource(8))
	for _, script := range []string{anyScript(r), networkScript(r), "client ann 7 1 4 2 8 4\noutcomes ann\n", "foo\n"} {
		var told string
		p := func() weak.Pointer[byte] {
			s := strings.Clone(script)
			told, _, _ = world.Run(s)
			return weak.Make(unsafe.StringData(s))
		}()
		for range 50 {
			if runtime.GC(); p.Value() == nil {
				break
			}
			time.Sleep(time.Millisecond)
		}
		if p.Value() != nil {
			t.Errorf("Run(%.100q): the script is kept", script)
		}
		runtime.KeepAlive(told)
	}
}

// TestGoroutinesEnd: those that a call starts have ended when it answers. One that has closed its channel may be on its way out yet.
func TestGoroutinesEnd(t *testing.T) {
	r := rand.New(rand.NewSource(9))
	before := runtime.NumGoroutine()
	for range 40 {
		world.Run(networkScript(r))
		for range 1000 {
			if runtime.NumGoroutine() <= before {
				break
			}
			time.Sleep(time.Millisecond)
		}
		if n := runtime.NumGoroutine(); n > before {
			t.Fatalf("%d goroutines, not %d", n, before)
		}
	}
}

// TestAtOnce: worlds know nothing of one another, at the same time, too.
func TestAtOnce(t *testing.T) {
	r := rand.New(rand.NewSource(10))
	var scripts, told []string
	for len(scripts) < 8 {
		script := networkScript(r)
		s, e, _ := world.Run(script)
		if e != api.OK {
			t.Fatalf("%q: %d", script, e)
		}
		scripts, told = append(scripts, script), append(told, s)
	}
	var all sync.WaitGroup
	for i := range scripts {
		all.Go(func() {
			for j := range scripts {
				wantRun(t, scripts[(i+j)%len(scripts)], told[(i+j)%len(scripts)])
			}
		})
	}
	all.Wait()
}

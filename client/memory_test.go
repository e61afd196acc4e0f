package client_test

import (
	"runtime"
	"slices"
	"strings"
	"sync"
	"testing"
	"time"
	"unsafe"
	"weak"

	"callbox/api"
	"callbox/client"
)

// TestGroupsAreNotKept: a list that was handed in is neither written into nor read later.
func TestGroupsAreNotKept(t *testing.T) {
	room := []int{1, 2, 3, 4, 5}
	config := exampleConfig()
	config.Sys.Groups = room[:3]
	c := clientOf(t, config)
	wantCall(t, c, there, "", 9)
	room[0], room[3] = 70, 80
	if got := readRequest(t, c.Due()[0]).mark.Sys.Groups; !slices.Equal(got, []int{1, 2, 3}) {
		t.Errorf("the groups are %v", got)
	}
	room[1] = -1
	until(t, c, 2)
	wantCall(t, c, there, "", 10)
	for _, p := range c.Due() {
		if got := readRequest(t, p).mark.Sys.Groups; !slices.Equal(got, []int{1, 2, 3}) {
			t.Errorf("the groups are %v", got)
		}
	}
	if !slices.Equal(room, []int{70, -1, 3, 80, 5}) {
		t.Errorf("the list was written into: %v", room)
	}
}

// isPiece: does the text lie within the other one's memory?
func isPiece(text, whole string) bool {
	from := uintptr(unsafe.Pointer(unsafe.StringData(whole)))
	at := uintptr(unsafe.Pointer(unsafe.StringData(text)))
	return at >= from && at < from+uintptr(len(whole))
}

// wantFreed: what a weak pointer leads to is not kept by anybody.
func wantFreed(t *testing.T, what string, p weak.Pointer[byte]) {
	t.Helper()
	for range 100 {
		runtime.GC()
		if p.Value() == nil {
			return
		}
		time.Sleep(time.Millisecond)
	}
	t.Errorf("%s: it is kept", what)
}

// TestTextsAreNotKept: of the texts that were handed in no memory is kept, while a call waits and an outcome is not told.
func TestTextsAreNotKept(t *testing.T) {
	var c *client.Client
	makeText := func(piece string) string { return strings.Repeat("-", 1<<16) + piece + strings.Repeat("-", 1<<16) }
	begin := func() (weak.Pointer[byte], weak.Pointer[byte]) {
		machine, args := makeText("ab"), makeText("abcd")
		config := exampleConfig()
		config.Sys.Machine = machine[1<<16:][:2]
		c = clientOf(t, config)
		wantCall(t, c, there, args[1<<16:][:4], 9)
		wantDue(t, c, 9)
		return weak.Make(unsafe.StringData(machine)), weak.Make(unsafe.StringData(args))
	}
	hear := func() weak.Pointer[byte] {
		p := replyFrom(t, there, api.Reply{Xid: 10, Results: "wxyz"})
		data := makeText(p.Data)
		p.Data = data[1<<16:][:len(p.Data)]
		wantHeard(t, c, p, 10)
		return weak.Make(unsafe.StringData(data))
	}
	machine, args := begin()
	wantFreed(t, "the machine's name", machine)
	wantFreed(t, "the arguments", args)
	wantCall(t, c, there, "", 10)
	wantFreed(t, "the reply", hear())
	until(t, c, 2)
	if r := readRequest(t, c.Due()[0]); r.mark.Sys.Machine != "ab" || r.call.Args != "abcd" {
		t.Errorf("the request is %v", r)
	}
	wantDone(t, c, api.Outcome{Sequence: 10, Status: api.OutSuccess, Results: "wxyz"})
}

// TestResultsAreNewMemory: they are no piece of the datagram.
func TestResultsAreNewMemory(t *testing.T) {
	c := example(t)
	wantCall(t, c, there, "", 9)
	p := replyFrom(t, there, api.Reply{Xid: 9, Results: "wxyz"})
	wantHeard(t, c, p, 9)
	if o := c.Done(); len(o) != 1 || o[0].Results != "wxyz" || isPiece(o[0].Results, p.Data) {
		t.Errorf("%v", o)
	}
	runtime.KeepAlive(p)
}

// scribble writes over a list, and over its spare room.
func scribble[T any](list []T, with T) {
	whole := list[:cap(list)]
	for i := range whole {
		whole[i] = with
	}
}

// isScribbled: nobody has written into the list since.
func isScribbled[T comparable](list []T, with T) bool {
	return !slices.ContainsFunc(list[:cap(list)], func(x T) bool { return x != with })
}

// TestListsAreNewMemory: what is done with a list that came out is nothing to the client, and the other way round.
func TestListsAreNewMemory(t *testing.T) {
	config := exampleConfig()
	config.Window = 20
	c, quiet := clientOf(t, config), clientOf(t, config)
	badPacket, badOutcome := api.Packet{From: -1, To: -1, Data: "scribble"}, api.Outcome{Sequence: -1}
	var packets [][]api.Packet
	var outcomes [][]api.Outcome
	var numbers [][]int
	for n := range 40 {
		for _, x := range []*client.Client{c, quiet} {
			x.Call(there, 7, 1, 2, "")
			x.Hear(success(t, 9+n/2))
			x.Tick()
		}
		due, done, waiting := c.Due(), c.Done(), c.Waiting()
		if !slices.Equal(due, quiet.Due()) || !slices.Equal(done, quiet.Done()) || !slices.Equal(waiting, quiet.Waiting()) || c.Water() != quiet.Water() {
			t.Fatalf("at %d: the client is disturbed", n)
		}
		for i := range packets {
			if !isScribbled(packets[i], badPacket) || !isScribbled(outcomes[i], badOutcome) || !isScribbled(numbers[i], -1) {
				t.Fatalf("at %d: a list of the step %d was written into", n, i)
			}
		}
		scribble(due, badPacket)
		scribble(done, badOutcome)
		scribble(waiting, -1)
		packets, outcomes, numbers = append(packets, due), append(outcomes, done), append(numbers, waiting)
	}
}

// TestApart: clients know nothing of one another.
func TestApart(t *testing.T) {
	x, y := example(t), example(t)
	wantCall(t, x, there, "", 9)
	wantWaiting(t, y, 9)
	wantDue(t, y)
	wantHeard(t, y, success(t, 9), 0)
	wantDue(t, x, 9)
	until(t, x, 3)
	if y.Now() != 0 {
		t.Errorf("the time is %d", y.Now())
	}
	wantCall(t, y, there, "", 9)
	wantHeard(t, x, success(t, 9), 9)
	wantWaiting(t, y, 9, 9)
	wantDone(t, y)
	wantGuess(t, x, 9)
	wantGuess(t, y, 0)
}

func liveBytes() uint64 {
	var m runtime.MemStats
	runtime.GC()
	runtime.GC()
	runtime.ReadMemStats(&m)
	return m.HeapAlloc
}

// TestLongLife: a client that goes on and on takes no more than at its beginning.
func TestLongLife(t *testing.T) {
	config := exampleConfig()
	config.Window = 64
	c := clientOf(t, config)
	args := strings.Repeat("abcd", 250)
	at := 9
	goOn := func(until int) {
		for ; at < until; at++ {
			wantCall(t, c, there, args, at)
			c.Due()
			if at%3 > 0 {
				wantHeard(t, c, replyFrom(t, there, api.Reply{Xid: at, Results: args}), at)
			}
			c.Tick()
			c.Done()
		}
	}
	goOn(1000)
	before := liveBytes()
	goOn(100000)
	if behind := liveBytes(); behind > before+1<<16 {
		t.Errorf("%d bytes, and %d before", behind, before)
	}
	runtime.KeepAlive(c)
}

// TestNothingIsKept: a call that has its outcome, and an outcome that was told, do not lie in a client.
func TestNothingIsKept(t *testing.T) {
	args := strings.Repeat("abcd", 250)
	good := replyFrom(t, there, api.Reply{Xid: 9, Results: args})
	all := make([]*client.Client, 1000)
	for i := range all {
		all[i] = example(t)
	}
	before := liveBytes()
	for i, c := range all {
		wantCall(t, c, there, args, 9)
		wantCall(t, c, there, args, 10)
		c.Due()
		wantHeard(t, c, good, 9)
		until(t, c, 22)
		if l := c.Done(); len(l) != 2 {
			t.Fatalf("%d: %v", i, l)
		}
	}
	if behind := liveBytes(); behind > before+300*1000 {
		t.Errorf("%d bytes, and %d before", behind, before)
	}
	runtime.KeepAlive(all)
}

// TestIdleTakesNothing: where nothing is due and nothing comes, time goes on without memory.
func TestIdleTakesNothing(t *testing.T) {
	config := exampleConfig()
	config.Pace = api.Pace{Base: mostWait, Cap: mostWait, Tries: 2}
	c := clientOf(t, config)
	wantCall(t, c, there, "", 9)
	wantDue(t, c, 9)
	if n := testing.AllocsPerRun(1000, func() {
		c.Tick()
		c.Due()
		c.Done()
		c.Water()
		c.Now()
		c.Guess()
	}); n != 0 {
		t.Errorf("memory is taken %v times", n)
	}
}

// TestAtOnce: clients of their own may be used at the same time, also ones that were made of one list.
func TestAtOnce(t *testing.T) {
	config := exampleConfig()
	config.Sys.Groups = []int{1, 2, 3}
	good := make([]api.Packet, 300)
	for n := range good {
		good[n] = success(t, 9+n)
	}
	var all sync.WaitGroup
	for range 8 {
		all.Go(func() {
			c, e := client.New(config)
			if e != api.OK {
				t.Errorf("New: %d", e)
				return
			}
			for n := range good {
				if sequence, e := c.Call(there, 7, 1, 2, "abcd"); sequence != 9+n || e != api.OK {
					t.Errorf("Call: %d, %d", sequence, e)
				}
				if len(c.Due()) != 1 || c.Hear(good[n]) != 9+n || len(c.Done()) != 1 {
					t.Errorf("%d goes another way", 9+n)
				}
				c.Tick()
			}
		})
	}
	all.Wait()
}

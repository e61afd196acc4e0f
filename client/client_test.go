package client_test

import (
	"slices"
	"testing"

	"callbox/api"
	"callbox/client"
	"callbox/message"
)

const (
	home  = 65537
	there = 65636
)

// exampleConfig is the chapter's.
func exampleConfig() api.ClientConfig {
	return api.ClientConfig{Address: home, Instance: 5, First: 9, Window: 2, Pace: api.Pace{Base: 2, Cap: 8, Tries: 4}}
}

func clientOf(t *testing.T, config api.ClientConfig) *client.Client {
	t.Helper()
	c, e := client.New(config)
	if c == nil || e != api.OK {
		t.Fatalf("New(%v): %v, %d", config, c, e)
	}
	return c
}

func example(t *testing.T) *client.Client {
	t.Helper()
	return clientOf(t, exampleConfig())
}

// until ticks on to a time. A Now that stands still ends it, too.
func until(t *testing.T, c *client.Client, time int) {
	t.Helper()
	for n := c.Now(); n < time; n++ {
		c.Tick()
	}
	if c.Now() != time {
		t.Fatalf("the time is %d, not %d", c.Now(), time)
	}
}

func wantCall(t *testing.T, c *client.Client, to int, args string, sequence int) {
	t.Helper()
	if n, e := c.Call(to, 7, 1, 2, args); n != sequence || e != api.OK {
		t.Fatalf("Call: %d, %d, not %d", n, e, sequence)
	}
}

func wantRefused(t *testing.T, c *client.Client, to int, args string, want api.Errno) {
	t.Helper()
	if n, e := c.Call(to, 7, 1, 2, args); n != 0 || e != want {
		t.Errorf("Call: %d, %d, not %d", n, e, want)
	}
}

// wantDue: Due gives just the requests of these sequences, and then none.
func wantDue(t *testing.T, c *client.Client, sequences ...int) {
	t.Helper()
	var got []int
	for _, p := range c.Due() {
		x, _ := message.ParseCall(p.Data)
		got = append(got, x.Xid)
	}
	if !slices.Equal(got, sequences) {
		t.Errorf("at %d is due: %v, not %v", c.Now(), got, sequences)
	}
	if again := c.Due(); len(again) != 0 {
		t.Errorf("at %d is due once more: %v", c.Now(), again)
	}
}

func wantDone(t *testing.T, c *client.Client, want ...api.Outcome) {
	t.Helper()
	if got := c.Done(); !slices.Equal(got, want) {
		t.Errorf("outcomes: %v, not %v", got, want)
	}
	if again := c.Done(); len(again) != 0 {
		t.Errorf("told twice: %v", again)
	}
}

func wantWaiting(t *testing.T, c *client.Client, water int, sequences ...int) {
	t.Helper()
	if got := c.Waiting(); !slices.Equal(got, sequences) || c.Water() != water {
		t.Errorf("waiting: %v, of the water %d, not %v, of %d", got, c.Water(), sequences, water)
	}
}

func wantHeard(t *testing.T, c *client.Client, p api.Packet, want int) {
	t.Helper()
	if n := c.Hear(p); n != want {
		t.Errorf("Hear(%v): %d, not %d", p, n, want)
	}
}

func wantGuess(t *testing.T, c *client.Client, want int) {
	t.Helper()
	if n := c.Guess(); n != want {
		t.Errorf("Guess: %d, not %d", n, want)
	}
}

// replyFrom is a datagram home.
func replyFrom(t *testing.T, from int, r api.Reply) api.Packet {
	t.Helper()
	data, e := message.PrintReply(r)
	if e != api.OK {
		t.Fatalf("PrintReply(%v): %d", r, e)
	}
	return api.Packet{From: from, To: home, Data: data}
}

func success(t *testing.T, sequence int) api.Packet {
	t.Helper()
	return replyFrom(t, there, api.Reply{Xid: sequence})
}

func timeout(sequence, at int) api.Outcome {
	return api.Outcome{Sequence: sequence, Status: api.OutTimeout, At: at}
}

// TestNewHasNotCalled is C1 and C6 of one that was just made.
func TestNewHasNotCalled(t *testing.T) {
	c := example(t)
	wantDue(t, c)
	wantDone(t, c)
	wantWaiting(t, c, 9)
	wantGuess(t, c, 0)
	if c.Now() != 0 {
		t.Errorf("the time is %d", c.Now())
	}
}

// TestExampleOfThePace is the chapter's first.
func TestExampleOfThePace(t *testing.T) {
	c := example(t)
	wantCall(t, c, there, "abcd", 9)
	for _, time := range []int{0, 2, 6, 14} {
		until(t, c, max(0, time-1))
		if time > 0 {
			wantDue(t, c)
		}
		until(t, c, time)
		wantDue(t, c, 9)
	}
	until(t, c, 21)
	wantDue(t, c)
	wantDone(t, c)
	wantWaiting(t, c, 9, 9)
	c.Tick()
	wantDue(t, c)
	wantDone(t, c, timeout(9, 22))
	wantWaiting(t, c, 10)
}

// TestRequestByItsBytes is the chapter's word 'the request', laid down by hand.
func TestRequestByItsBytes(t *testing.T) {
	c := example(t)
	wantCall(t, c, there, "abcd", 9)
	const head = "\x00\x00\x00\x09" + "\x00\x00\x00\x00" + "\x00\x00\x00\x02" + "\x00\x00\x00\x07" + "\x00\x00\x00\x01" + "\x00\x00\x00\x02"
	const mark = "MARK" + "\x00\x00\x00\x2c" + "\x00\x00\x00\x00\x00\x00\x00\x05" + "\x00\x00\x00\x00\x00\x00\x00\x09" + "\x00\x00\x00\x00\x00\x00\x00\x09"
	const nobody = "\x00\x00\x00\x00\x00\x00\x00\x00\x00\x00\x00\x00\x00\x00\x00\x00\x00\x00\x00\x00"
	want := api.Packet{From: home, To: there, Data: head + mark + nobody + "\x00\x00\x00\x00\x00\x00\x00\x00" + "abcd"}
	if got := c.Due(); !slices.Equal(got, []api.Packet{want}) {
		t.Errorf("%v, not %v", got, want)
	}
}

// TestExampleOfSkipping is the chapter's first, at its end: a sending that nobody asked for is not moved.
func TestExampleOfSkipping(t *testing.T) {
	for _, first := range []bool{false, true} {
		c := example(t)
		wantCall(t, c, there, "abcd", 9)
		if first {
			wantDue(t, c, 9)
		}
		until(t, c, 15)
		wantDue(t, c, 9)
		for time := 16; time < 22; time++ {
			until(t, c, time)
			wantDue(t, c)
		}
		c.Tick()
		wantDone(t, c, timeout(9, 22))
	}
}

// TestExampleOfTheWindow is the chapter's second.
func TestExampleOfTheWindow(t *testing.T) {
	c := example(t)
	wantCall(t, c, there, "", 9)
	wantCall(t, c, there, "", 10)
	wantRefused(t, c, there, "", api.ErrClientWindow)
	until(t, c, 3)
	wantHeard(t, c, replyFrom(t, there, api.Reply{Xid: 10, Results: "wxyz"}), 10)
	wantDone(t, c, api.Outcome{Sequence: 10, Status: api.OutSuccess, Results: "wxyz", At: 3})
	wantWaiting(t, c, 9, 9)
	wantRefused(t, c, there, "", api.ErrClientWindow)
	wantHeard(t, c, success(t, 9), 9)
	wantWaiting(t, c, 11)
	wantCall(t, c, there, "", 11)
}

// TestExampleOfRefusals is the chapter's fourth.
func TestExampleOfRefusals(t *testing.T) {
	c := example(t)
	wantRefused(t, c, 0, "", api.ErrArg)
	wantRefused(t, c, there, "abcde", api.ErrClientLong)
	config := exampleConfig()
	config.First = 1<<32 - 1
	c = clientOf(t, config)
	wantCall(t, c, there, "", 1<<32-1)
	wantHeard(t, c, success(t, 1<<32-1), 1<<32-1)
	wantRefused(t, c, there, "", api.ErrClientWorn)
	wantWaiting(t, c, 1<<32)
}

// TestDocumentsExample is DOC.md's fourth of the whole: what each request says of the water.
func TestDocumentsExample(t *testing.T) {
	config := exampleConfig()
	config.First, config.Window = 5, 4
	c := clientOf(t, config)
	wantCall(t, c, there, "", 5)
	wantCall(t, c, there, "", 6)
	wantWaters(t, c, [2]int{5, 5}, [2]int{6, 5})
	wantHeard(t, c, success(t, 5), 5)
	wantCall(t, c, there, "", 7)
	wantWaters(t, c, [2]int{7, 6})
	until(t, c, 2)
	wantWaters(t, c, [2]int{6, 6}, [2]int{7, 6})
	wantHeard(t, c, success(t, 6), 6)
	until(t, c, 6)
	wantWaters(t, c, [2]int{7, 7})
}

// wantWaters: Due gives requests of just these sequences and waters.
func wantWaters(t *testing.T, c *client.Client, want ...[2]int) {
	t.Helper()
	var got [][2]int
	for _, p := range c.Due() {
		r := readRequest(t, p)
		got = append(got, [2]int{r.mark.Sequence, r.mark.Water})
	}
	if !slices.Equal(got, want) {
		t.Errorf("sequences and waters: %v, not %v", got, want)
	}
}

// TestWaterOfTheSending: it is that of the time at which a request is given, not of the issue.
func TestWaterOfTheSending(t *testing.T) {
	config := exampleConfig()
	config.Window = 3
	c := clientOf(t, config)
	for n := range 3 {
		wantCall(t, c, there, "", 9+n)
	}
	wantHeard(t, c, success(t, 9), 9)
	wantWaters(t, c, [2]int{10, 10}, [2]int{11, 10})
	wantHeard(t, c, success(t, 11), 11)
	until(t, c, 2)
	wantWaters(t, c, [2]int{10, 10})
}

// TestDueByRisingSequences is C3: each call has its own times.
func TestDueByRisingSequences(t *testing.T) {
	config := exampleConfig()
	config.Window = 9
	c := clientOf(t, config)
	wantCall(t, c, there, "", 9)
	wantDue(t, c, 9)
	wantCall(t, c, there+1, "", 10)
	wantDue(t, c, 10)
	until(t, c, 1)
	wantCall(t, c, there, "", 11)
	wantCall(t, c, there, "", 12)
	wantDue(t, c, 11, 12)
	until(t, c, 2)
	wantDue(t, c, 9, 10)
	until(t, c, 3)
	wantCall(t, c, there, "", 13)
	wantDue(t, c, 11, 12, 13)
	until(t, c, 6)
	wantHeard(t, c, success(t, 12), 12)
	wantDue(t, c, 9, 10, 13)
	until(t, c, 7)
	wantDue(t, c, 11)
}

// TestTimeoutsByRisingSequences is C4: those of one time in their order, and none ahead of its own.
func TestTimeoutsByRisingSequences(t *testing.T) {
	config := exampleConfig()
	config.Window = 9
	c := clientOf(t, config)
	wantCall(t, c, there, "", 9)
	wantCall(t, c, there, "", 10)
	wantCall(t, c, there, "", 11)
	until(t, c, 1)
	wantCall(t, c, there, "", 12)
	until(t, c, 21)
	wantHeard(t, c, success(t, 10), 10)
	until(t, c, 22)
	wantWaiting(t, c, 12, 12)
	until(t, c, 23)
	wantWaiting(t, c, 13)
	wantDone(t, c, api.Outcome{Sequence: 10, Status: api.OutSuccess, At: 21}, timeout(9, 22), timeout(11, 22), timeout(12, 23))
}

// TestOutcomesInTheirOrder is C6: as they came, whatever their sequences are, told once.
func TestOutcomesInTheirOrder(t *testing.T) {
	config := exampleConfig()
	config.Window = 9
	c := clientOf(t, config)
	for n := range 4 {
		wantCall(t, c, there, "", 9+n)
	}
	wantHeard(t, c, success(t, 11), 11)
	wantHeard(t, c, success(t, 9), 9)
	wantDone(t, c, api.Outcome{Sequence: 11, Status: api.OutSuccess}, api.Outcome{Sequence: 9, Status: api.OutSuccess})
	wantHeard(t, c, success(t, 12), 12)
	wantHeard(t, c, success(t, 10), 10)
	wantDone(t, c, api.Outcome{Sequence: 12, Status: api.OutSuccess}, api.Outcome{Sequence: 10, Status: api.OutSuccess})
}

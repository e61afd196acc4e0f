package service_test

import (
	"errors"
	"testing"

	"callbox/api"
)

// bad is an error that cannot even say what it is.
type bad struct{}

func (bad) Error() string  { panic("no word of it") }
func (bad) String() string { panic("no word of it") }

// deep panics many calls below a Handle.
func deep(n int) int {
	if n == 0 {
		panic("deep")
	}
	return deep(n-1) + 1
}

// panics are Handles that never tell anything.
func panics() map[string]func(int, string) (int, string) {
	raise := func(v any) func(int, string) (int, string) {
		return func(int, string) (int, string) { panic(v) }
	}
	return map[string]func(int, string) (int, string){
		"a text":     raise("bang"),
		"a number":   raise(0),
		"an errno":   raise(api.OK),
		"an error":   raise(errors.New("bang")),
		"nil":        raise(nil),
		"a bad one":  raise(bad{}),
		"a function": raise(func() { panic("inside") }),
		"a list":     raise([]int{1}),
		"an index":   func(proc int, args string) (int, string) { return api.Success, args[len(args)+proc:] },
		"a division": func(proc int, args string) (int, string) { return proc / (len(args) - 4), "four" },
		"nil memory": func(int, string) (int, string) { var p *ear; return p.accept, "four" },
		"a nil map":  func(int, string) (int, string) { var m map[int]int; m[1] = 1; return api.Success, "four" },
		"no function": func(proc int, args string) (int, string) {
			var f func(int, string) (int, string)
			return f(proc, args)
		},
		"an assertion": func(int, string) (int, string) { var v any = 1; return api.Success, v.(string) },
		"deep":         func(int, string) (int, string) { return deep(10000), "four" },
		"told first": func(int, string) (accept int, results string) {
			accept, results = api.Success, "four"
			panic("then")
		},
		"told, then deferred": func(int, string) (int, string) {
			defer func() { panic("late") }()
			return api.Success, "four"
		},
		"twice": func(int, string) (int, string) {
			defer func() { panic("second") }()
			panic("first")
		},
		"raised again": func(int, string) (int, string) {
			defer func() { panic(recover()) }()
			panic("first")
		},
		"a closed channel": func(int, string) (int, string) {
			c := make(chan int)
			close(c)
			close(c)
			return api.Success, "four"
		},
	}
}

// TestPanics is V4 and V5: whatever a Handle panics with, Run tells SystemErr and goes on.
func TestPanics(t *testing.T) {
	for what, f := range panics() {
		t.Run(what, func(t *testing.T) {
			calls := 0
			r := offered(t, func(proc int, args string) (int, string) {
				if calls++; calls%2 == 0 {
					return api.Success, args
				}
				return f(proc, args)
			})
			for n := 1; n <= 3; n++ {
				wantRun(t, r, 7, 2, 4, "args", api.SystemErr, "")
				wantRun(t, r, 7, 5, 1, "args", api.Success, "args")
				wantFound(t, r, 7, 2, 4, api.Success, 0, 0)
				wantFound(t, r, 7, 3, 4, api.ProgMismatch, 2, 5)
				if calls != 2*n {
					t.Errorf("called %d times, not %d", calls, 2*n)
				}
			}
		})
	}
}

// TestRecoveredInside: a Handle that catches its own panic has told what it tells.
func TestRecoveredInside(t *testing.T) {
	r := offered(t, func(int, string) (accept int, results string) {
		defer func() {
			if recover() != nil {
				accept, results = api.GarbageArgs, "four"
			}
		}()
		panic("inside")
	})
	wantRun(t, r, 7, 2, 1, "", api.GarbageArgs, "")
}

// TestPanicOfTheCaller: Run catches what its Handle raises, not what comes from elsewhere.
func TestPanicOfTheCaller(t *testing.T) {
	r := offered(t, echo)
	defer func() {
		if recover() != "ours" {
			t.Error("the caller's panic was lost")
		}
	}()
	defer func() { wantRun(t, r, 7, 2, 1, "abcd", api.Success, "abcd") }()
	panic("ours")
}

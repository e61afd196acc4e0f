package service

import (
	"strings"

	"callbox/api"
)

// mayBe: a service that can be offered.
func mayBe(s Service) bool {
	return isWord(s.Prog) && isWord(s.Vers) && rise(s.Procs) && s.Handle != nil
}

// rise: they are words, none of them 0, each greater than the one ahead.
func rise(procs []int) bool {
	last := 0
	for _, proc := range procs {
		if proc <= last || !isWord(proc) {
			return false
		}
		last = proc
	}
	return true
}

func isWord(n int) bool { return n >= 0 && n <= api.MaxWord }

// doNothing is what became of a call of procedure 0.
func doNothing(args string) int {
	if args != "" {
		return api.GarbageArgs
	}
	return api.Success
}

// trusted is what a service told, as far as it may tell it.
func trusted(accept int, results string) (int, string) {
	switch {
	case accept == api.Success && areResults(results):
		// They may be a piece of the arguments.
		return api.Success, strings.Clone(results)
	case accept == api.GarbageArgs:
		return api.GarbageArgs, ""
	}
	return api.SystemErr, ""
}

func areResults(text string) bool { return len(text) <= api.MaxBytes && len(text)%4 == 0 }

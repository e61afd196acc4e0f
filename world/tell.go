package world

import (
	"strconv"
	"strings"

	"callbox/api"
)

// What is told without any numbers.
const (
	ok   = "ok"
	none = "none"
)

// counted is a word and its number.
func counted(word string, n int) string { return word + " " + strconv.Itoa(n) }

// listed is a word, how many parts there are, and these.
func listed(word string, parts []string) string {
	return strings.Join(append([]string{counted(word, len(parts))}, parts...), " ")
}

// joined are numbers with a colon between.
func joined(numbers ...int) string {
	var texts []string
	for _, n := range numbers {
		texts = append(texts, strconv.Itoa(n))
	}
	return strings.Join(texts, ":")
}

func failed(e api.Errno) string { return counted("error", int(e)) }

func failedAt(e api.Errno, at int) string { return failed(e) + " " + counted("at", at) }

// done is what is told of what has nothing to tell but whether it went well.
func done(e api.Errno) string {
	if e != api.OK {
		return failed(e)
	}
	return ok
}

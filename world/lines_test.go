package world_test

import (
	"slices"
	"strings"
	"testing"

	"callbox/api"
	"callbox/world"
)

// forms are the chapter's.
var forms = []string{
	"|",
	"| TEXT",
	"compile",
	"stub",
	"value TYPE TEXT",
	"bytes TYPE HEX",
	"arg TYPE TEXT",
	"table N N N N",
	"row N N N TYPE TEXT",
	"server N N N N N",
	"offer N",
	"mapper N",
	"client NAME N N N N N N",
	"call NAME N N N N",
	"ask NAME N ASK N N N N",
	"tick",
	"deliver N",
	"drop N",
	"double N",
	"stray N WHOM HEX",
	"work N",
	"air",
	"outcomes NAME",
	"log N",
	"held N",
	"state N",
}

var ownWords = strings.Fields("bool case const default double enum float hyper int opaque program quadruple string struct switch typedef union unsigned version void")

var (
	rightNumbers = strings.Fields("0 1 9 10 65535 65536 4294967296 1099511627775 1099511627776")
	wrongNumbers = append(strings.Fields("00 01 007 -1 -0 +1 1099511627777 1099511627780 2099511627776 9223372036854775807 9223372036854775808 18446744073709551616 18446744073709551617 99999999999999999999999999 1x 0x1 1_0 1.0 1e1 N - ١ １"), "", "\x00", "1\x00", "1\r")
	rightNames   = append(strings.Fields("a z A Z a1 a_ ann TRUE FALSE set dump N NAME compile Int ints"), strings.Repeat("n", 32))
	wrongNames   = append(strings.Fields("1a _a a-b a.b ann! é añ |"), append(ownWords, "", "a\x00", "\xff", "a\r", strings.Repeat("n", 33))...)
)

// rights are words that may stand where a form has such a one; wrongs are some that may not.
func rights(kind string) []string {
	switch kind {
	case "N":
		return rightNumbers
	case "NAME":
		return rightNames
	case "TYPE", "WHOM":
		return append(slices.Clone(rightNumbers), rightNames...)
	case "HEX":
		return append(strings.Fields("- 00 ff 0123456789abcdef a0"), strings.Repeat("0f", 4000))
	case "TEXT":
		return []string{"x", " ", "  ", " x", "x ", "a b", "\x00", "\xff", "\r", "|", "\t", strings.Repeat("x ", 4000)}
	case "ASK":
		return strings.Fields("set unset port dump")
	}
	return []string{kind}
}

func wrongs(kind string) []string {
	switch kind {
	case "N":
		return append(slices.Clone(wrongNumbers), "a")
	case "NAME":
		return append(slices.Clone(wrongNames), "0", "1")
	case "TYPE", "WHOM":
		var both []string
		for _, s := range append(slices.Clone(wrongNumbers), wrongNames...) {
			if !slices.Contains(rights(kind), s) {
				both = append(both, s)
			}
		}
		return both
	case "HEX":
		return append(strings.Fields("0 000 0f0 AB aB 0g g0 -- -0 0- -00 00- 0x 0x00 #00"), "", "\x00\x00", "é", "00\r")
	case "TEXT":
		return []string{""}
	case "ASK":
		return append(strings.Fields("null SET Set se sets unse portt du 0 1 ASK"), "", "set\r")
	}
	return []string{"", kind + kind, kind[1:], strings.ToUpper(kind) + "x", "x" + kind, kind + "\r", kind + "\x00", "\t" + kind}
}

// simple are the words of a line of a form.
func simple(form string) []string {
	var words []string
	for _, kind := range strings.Fields(form) {
		words = append(words, rights(kind)[0])
	}
	return words
}

// put is a line of a form, with another word at a place.
func put(form string, i int, word string) string {
	words := simple(form)
	words[i] = word
	return strings.Join(words, " ")
}

// wantForm: a line is of some form, or of none.
func wantForm(t *testing.T, line string, is bool) {
	t.Helper()
	s, e, at := world.Run(line + "\n")
	right := e == api.OK && at == 0 && strings.Count(s, "\n") == 1 && len(s) > 1 && strings.HasSuffix(s, "\n")
	if !is {
		right = e == api.ErrWorldLine && at == 1 && s == ""
	}
	if !right {
		t.Errorf("Run(%.100q) = %.100q, %d, %d", line+"\n", s, e, at)
	}
}

// TestForms is D1: a line of each form, with each word of its kinds.
func TestForms(t *testing.T) {
	for _, form := range forms {
		for i, kind := range strings.Fields(form) {
			for _, word := range rights(kind) {
				wantForm(t, put(form, i, word), true)
			}
		}
	}
}

// TestWrongWords is D1: a line with one word that is none of its kind.
func TestWrongWords(t *testing.T) {
	for _, form := range forms {
		for i, kind := range strings.Fields(form) {
			for _, word := range wrongs(kind) {
				wantForm(t, put(form, i, word), false)
			}
		}
	}
}

// TestWrongLines is D1: a line with a word less or more, with other blanks, or with words in another order.
func TestWrongLines(t *testing.T) {
	for _, form := range forms {
		words := simple(form)
		line := strings.Join(words, " ")
		takesAll := strings.HasSuffix(form, "TEXT")
		if form != "|" {
			wantForm(t, line+" x", takesAll)
			wantForm(t, line+" 1", takesAll)
			wantForm(t, line+" ", takesAll)
			wantForm(t, line+"\r", takesAll)
		}
		for _, bad := range []string{" " + line, "\t" + line, "\ufeff" + line, strings.ToUpper(line[:1]) + line[1:] + "\x00\x00" + line} {
			if bad[0] != '|' {
				wantForm(t, bad, false)
			}
		}
		for i := range words[1:] {
			less := strings.Join(slices.Delete(slices.Clone(words), i+1, i+2), " ")
			wantForm(t, less, form == "| TEXT")
			for _, between := range []string{"", "\t", ", "} {
				wantForm(t, strings.Join(words[:i+1], " ")+between+strings.Join(words[i+1:], " "), false)
			}
			// Two blanks are well only where a TEXT may begin with one.
			wantForm(t, strings.Join(words[:i+1], " ")+"  "+strings.Join(words[i+1:], " "), takesAll && i == len(words)-2)
		}
	}
	for _, line := range []string{"", " ", "x", "||", "|x", "| ", "|\t", "# tick", "// tick", "tick tick", "tick\x00", "value", "value ", "value 1", "value 1 ", "bytes 1 -  ", "foo", "Tick", "TICK", "world 1", "timeout"} {
		wantForm(t, line, false)
	}
}

// TestLineEnds is D1: each line has a line feed at its end, and what stands behind the last one is a line.
func TestLineEnds(t *testing.T) {
	wantRefused(t, "", api.ErrWorldLine, 1)
	wantRefused(t, "\n", api.ErrWorldLine, 1)
	wantRefused(t, "\n\n", api.ErrWorldLine, 1)
	wantRefused(t, "\ntick\n", api.ErrWorldLine, 1)
	wantRefused(t, "tick\n\n", api.ErrWorldLine, 2)
	wantRefused(t, "tick\n\ntick\n", api.ErrWorldLine, 2)
	wantRefused(t, "tick\r\n", api.ErrWorldLine, 1)
	wantRefused(t, "tick\rtick\n", api.ErrWorldLine, 1)
	wantRun(t, "tick\ntick\n", "time 1\ntime 2\n")
	for _, form := range forms {
		line := strings.Join(simple(form), " ")
		wantRefused(t, line, api.ErrWorldLine, 1)
		wantRefused(t, "air\n"+line, api.ErrWorldLine, 2)
		wantRefused(t, line+"\n"+line+"\nfoo\n"+line+"\nfoo\n", api.ErrWorldLine, 3)
		wantRefused(t, line+"\nfoo", api.ErrWorldLine, 2)
	}
}

// TestManyLines is D1: 240 lines are played, the 241st is refused, but not ahead of one that stands ahead of it.
func TestManyLines(t *testing.T) {
	ticks := func(n int) string { return strings.Repeat("tick\n", n) }
	s, e, at := world.Run(ticks(240))
	if e != api.OK || at != 0 || strings.Count(s, "\n") != 240 || !strings.HasSuffix(s, "\ntime 240\n") {
		t.Errorf("240 lines: %.100q, %d, %d", s, e, at)
	}
	for _, behind := range []string{"tick\n", "tick", "foo\n", "foo", "\n", "tick\nfoo\n", ticks(100), strings.Repeat("\n", 1000)} {
		wantRefused(t, ticks(240)+behind, api.ErrWorldLine, 241)
	}
	for _, at := range []int{1, 2, 100, 239, 240} {
		wantRefused(t, ticks(at-1)+"foo\n"+ticks(241-at), api.ErrWorldLine, at)
		wantRefused(t, ticks(at-1)+"foo\n"+ticks(240-at), api.ErrWorldLine, at)
		wantRefused(t, ticks(at-1)+"tick", api.ErrWorldLine, at)
	}
}

// TestLongScript is D1: 12000 bytes are played; one more is refused, whatever they are.
func TestLongScript(t *testing.T) {
	wantRun(t, "| "+strings.Repeat("x", 11997)+"\n", "ok\n")
	wantRun(t, "| "+strings.Repeat(" ", 11989)+"\ncompile\n", "ok\ntypes 8 names 0 programs 0\n")
	wantRefused(t, "| "+strings.Repeat("x", 11998), api.ErrWorldLine, 1)
	wantRefused(t, strings.Repeat("\n", 12000), api.ErrWorldLine, 1)
	wantRefused(t, strings.Repeat("x", 12000), api.ErrWorldLine, 1)
	for _, n := range []int{12001, 12002, 16000, 100000} {
		wantRefused(t, "| "+strings.Repeat("x", n-3)+"\n", api.ErrWorldLong, 0)
		wantRefused(t, strings.Repeat("x", n), api.ErrWorldLong, 0)
		wantRefused(t, strings.Repeat("\n", n), api.ErrWorldLong, 0)
	}
}

package world

import (
	"strings"

	"callbox/api"
)

// form is one that a line may have: its words, and what plays such a line and tells what came of it.
type form struct {
	words string
	play  func(words) string
}

// move is a line that has a form.
type move struct {
	play  func(words) string
	words words
}

// forms are all, as the chapter writes them.
func (w *world) forms() []form {
	return []form{
		{"|", w.addLine},
		{"| TEXT", w.addLine},
		{"compile", w.compile},
		{"stub", w.stub},
		{"value TYPE TEXT", w.value},
		{"bytes TYPE HEX", w.bytes},
		{"arg TYPE TEXT", w.arg},
		{"table N N N N", w.addTable},
		{"row N N N TYPE TEXT", w.row},
		{"server N N N N N", w.addServer},
		{"offer N", w.offer},
		{"mapper N", w.mapper},
		{"client NAME N N N N N N", w.addClient},
		{"call NAME N N N N", w.call},
		{"ask NAME N ASK N N N N", w.ask},
		{"tick", w.tick},
		{"deliver N", w.deliver},
		{"drop N", w.drop},
		{"double N", w.double},
		{"stray N WHOM HEX", w.stray},
		{"work N", w.work},
		{"air", w.flying},
		{"outcomes NAME", w.outcomes},
		{"log N", w.log},
		{"held N", w.held},
		{"state N", w.state},
	}
}

// read are the lines of a script, up to the first one that may not be, and whether these are all. (A script without lines has a first one that may not be.)
func read(script string, forms []form) ([]move, bool) {
	var moves []move
	for line := range strings.Lines(script) {
		text, ended := strings.CutSuffix(line, "\n")
		m, is := moveOf(text, forms)
		if !is || !ended || len(moves) == api.MaxLines {
			return moves, false
		}
		moves = append(moves, m)
	}
	return moves, len(moves) > 0
}

// moveOf is a line with the form that it has, and whether it has one.
func moveOf(line string, forms []form) (move, bool) {
another:
	for _, f := range forms {
		wanted := strings.Split(f.words, " ")
		// The last word takes all that is left: only a TEXT may have a blank in it.
		l := strings.SplitN(line, " ", len(wanted))
		if len(l) < len(wanted) {
			continue
		}
		for i, want := range wanted {
			if !isWord(want, l[i]) {
				continue another
			}
		}
		return move{f.play, l}, true
	}
	return move{}, false
}

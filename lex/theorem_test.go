package lex_test

import (
	"math/big"
	"math/rand"
	"regexp"
	"slices"
	"strings"
	"testing"

	"callbox/api"
	"callbox/lex"
)

// The model says by patterns what the chapter's section 'Words' says.
var (
	blankForm   = regexp.MustCompile(`^[ \t\n\r]+`)
	commentForm = regexp.MustCompile(`(?s)^/\*.*?\*/`)
	nameForm    = regexp.MustCompile(`^[A-Za-z][A-Za-z0-9_]*`)
	digitForm   = regexp.MustCompile(`^-?[0-9][A-Za-z0-9_]*`)
	signForm    = regexp.MustCompile(`^[{}()\[\]<>=;:,*]`)
	numberForm  = regexp.MustCompile(`^(0|[1-9][0-9]*|0[0-7]+|0x[0-9a-fA-F]+|-[1-9][0-9]*)$`)
)

func modelNumber(run string) (int, bool) {
	if !numberForm.MatchString(run) {
		return 0, false
	}
	n, ok := new(big.Int).SetString(run, 0)
	if !ok || n.Cmp(big.NewInt(-1<<31)) < 0 || n.Cmp(big.NewInt(1<<32-1)) > 0 {
		return 0, false
	}
	return int(n.Int64()), true
}

func modelOne(s string, at int) (api.Token, int, api.Errno) {
	rest := s[at:]
	if run := nameForm.FindString(rest); run != "" {
		k := name(run, at)
		if slices.Contains(strings.Fields(words), run) {
			k = word(run, at)
		} else if len(run) > 32 {
			return k, 0, api.ErrLexName
		}
		return k, len(run), api.OK
	}
	if run := digitForm.FindString(rest); run != "" {
		n, ok := modelNumber(run)
		if !ok {
			return api.Token{}, 0, api.ErrLexNumber
		}
		return number(n, at), len(run), api.OK
	}
	if one := signForm.FindString(rest); one != "" {
		return sign(one, at), 1, api.OK
	}
	if strings.HasPrefix(rest, "/*") {
		return api.Token{}, 0, api.ErrLexComment
	}
	return api.Token{}, 0, api.ErrLexByte
}

func modelScan(s string) ([]api.Token, api.Errno, int) {
	if len(s) > 16000 {
		return nil, api.ErrLexLong, 16000
	}
	var out []api.Token
	for at := 0; at < len(s); {
		if gap := blankForm.FindString(s[at:]) + commentForm.FindString(s[at:]); gap != "" {
			at += len(gap)
			continue
		}
		k, n, e := modelOne(s, at)
		if e != api.OK {
			return nil, e, at
		}
		out = append(out, k)
		at += n
	}
	return append(out, end(len(s))), api.OK, 0
}

func checkModel(t *testing.T, s string) {
	t.Helper()
	got, e, at := lex.Scan(s)
	want, wantE, wantAt := modelScan(s)
	if !slices.Equal(got, want) || e != wantE || at != wantAt {
		t.Fatalf("Scan(%s) = %v, %d, %d, not %v, %d, %d", short(s), got, e, at, want, wantE, wantAt)
	}
}

// TestShortTexts: all texts of at most so many bytes that tell the forms apart.
func TestShortTexts(t *testing.T) {
	var try func(s string, alphabet string, left int)
	try = func(s, alphabet string, left int) {
		checkModel(t, s)
		for i := 0; i < len(alphabet) && left > 0; i++ {
			try(s+alphabet[i:i+1], alphabet, left-1)
		}
	}
	every := make([]byte, 256)
	for i := range every {
		every[i] = byte(i)
	}
	try("", string(every), 2)
	try("", "/*- 0aX_", 6)
	try("", "01789xXafg_-", 4)
}

var pieces = strings.Fields(words + " a b1 FALSE TRUE x_ _ - / * / /* */ /**/ /***/ /*a*/ 0 1 -1 -0 00 017 08 0x 0x1F 0xg 1a 4294967295 4294967296 -2147483648 -2147483649 { } ( ) [ ] < > = ; : , * \" \x00 \xff é # .")

func randomText(r *rand.Rand) string {
	var b strings.Builder
	for range r.Intn(12) {
		switch r.Intn(8) {
		case 0:
			b.WriteString(strings.Repeat("nN9_"[r.Intn(4):][:1], 30+r.Intn(5)))
		case 1, 2:
			b.WriteByte(blanks[r.Intn(len(blanks))])
		default:
			b.WriteString(pieces[r.Intn(len(pieces))])
		}
		if r.Intn(2) == 0 {
			b.WriteByte(' ')
		}
	}
	return b.String()
}

func TestAgainstModel(t *testing.T) {
	r := rand.New(rand.NewSource(3))
	for range 30000 {
		checkModel(t, randomText(r))
	}
}

// gap is a row of blanks and comments.
func gap(r *rand.Rand, least int) string {
	var b strings.Builder
	for range least + r.Intn(3) {
		b.WriteString([]string{" ", "\t", "\n", "\r", "/**/", "/* a */", "/***/", "/*/*/", "/*\xff\"08*/"}[r.Intn(9)])
	}
	return b.String()
}

// spelt is the text of a token in its source: that from its place on which Scan takes as one.
func spelt(source string, k api.Token) string {
	text := source[k.At:]
	if k.Kind == api.TokenNumber {
		return digitForm.FindString(text)
	}
	return text[:len(k.Text)]
}

// TestTokensHangOnNothingElse is L3's first half.
func TestTokensHangOnNothingElse(t *testing.T) {
	r := rand.New(rand.NewSource(4))
	passed := 0
	for range 30000 {
		s := randomText(r)
		tokens, e, _ := lex.Scan(s)
		if e != api.OK {
			continue
		}
		passed++
		var b strings.Builder
		var want []api.Token
		for _, k := range tokens[:len(tokens)-1] {
			moved := k
			moved.At = b.Len()
			want = append(want, moved)
			b.WriteString(spelt(s, k) + gap(r, 1))
		}
		wantTokens(t, b.String(), want...)
		front, back := gap(r, 0), gap(r, 0)
		moved := slices.Clone(tokens[:len(tokens)-1])
		for i := range moved {
			moved[i].At += len(front)
		}
		wantTokens(t, front+s+back, moved...)
	}
	if passed < 3000 {
		t.Errorf("only %d sources without a fault", passed)
	}
}

// faulty is the run or the byte of a fault.
func faulty(s string, at int) string {
	if run := nameForm.FindString(s[at:]) + digitForm.FindString(s[at:]); run != "" {
		return run
	}
	return s[at : at+1]
}

// TestFaultsHangOnNothingBehind is L3's second half.
func TestFaultsHangOnNothingBehind(t *testing.T) {
	r := rand.New(rand.NewSource(5))
	seen := map[api.Errno]int{}
	for range 30000 {
		s := randomText(r)
		_, e, at := lex.Scan(s)
		if e == api.OK || e == api.ErrLexComment {
			continue
		}
		seen[e]++
		s = s[:at+len(faulty(s, at))] + blanks[r.Intn(4):][:1] + randomText(r)
		wantFault(t, s, e, at)
	}
	for _, e := range []api.Errno{api.ErrLexByte, api.ErrLexNumber, api.ErrLexName} {
		if seen[e] < 100 {
			t.Errorf("error %d came %d times", e, seen[e])
		}
	}
}

func TestNamesAgainstScan(t *testing.T) {
	r := rand.New(rand.NewSource(6))
	for range 30000 {
		s := randomText(r)
		tokens, e, _ := lex.Scan(s)
		alone := e == api.OK && len(tokens) == 2 && tokens[0].Text == s
		if got, want := lex.IsName(s), alone && tokens[0].Kind == api.TokenName; got != want {
			t.Errorf("IsName(%q) = %t", s, got)
		}
		if got, want := lex.IsWord(s), alone && tokens[0].Kind == api.TokenWord; got != want {
			t.Errorf("IsWord(%q) = %t", s, got)
		}
	}
}

func FuzzScan(f *testing.F) {
	for _, s := range []string{"", "struct a1 {int x;}; ", "a /* b", "a-5 0xfF 017", "-0", "_a", strings.Repeat("n", 33)} {
		f.Add(s)
	}
	f.Fuzz(checkModel)
}

package syntax_test

import (
	"math/rand"
	"strconv"
	"strings"
	"testing"

	"callbox/api"
	"callbox/lex"
	"callbox/syntax"
)

// grammar is the chapter's table, as it stands there but for this: how many there may be stands behind a * or a +; a body stands between #( and ); what a typedef declares is a rule of its own, in which each type stands once, for the model's speed; all is parted by blanks, and a token is told by a ' ahead.
const grammar = `
source      = definition *100 END
definition  = constant '; | 'typedef something '; | #( 'enum NAME members ) '; | #( 'struct NAME fields ) '; | #( 'union NAME choice ) '; | program ';
constant    = 'const NAME '= NUMBER
members     = '{ member ( ', member ) *63 '}
member      = NAME '= value
fields      = '{ ( declaration '; ) +64 '}
choice      = 'switch '( declaration ') '{ arm +64 [ 'default ': declaration '; ] '}
arm         = ( 'case value ': ) +64 declaration ';
declaration = 'void | something
something   = type ( NAME | NAME '[ value '] | NAME '< [ value ] '> | '* NAME ) | 'opaque NAME '[ value '] | 'opaque NAME '< [ value ] '> | 'string NAME '< [ value ] '>
value       = NUMBER | NAME
bare        = 'int | 'unsigned 'int | 'hyper | 'unsigned 'hyper | 'float | 'double | 'bool | NAME
type        = bare | #( 'enum members ) | #( 'struct fields ) | #( 'union choice )
program     = 'program NAME '{ version +64 '} '= WORD
version     = 'version NAME '{ procedure +64 '} '= WORD ';
procedure   = result NAME '( arguments ') '= WORD ';
result      = 'void | bare
arguments   = 'void | bare ( ', bare ) *3
`

const mostBodies = 8

// form is a piece of the grammar: a token, a rule, ways of which one is taken, or forms one behind the other, so often.
type form struct {
	token       string // a word or sign behind a ', or NAME, NUMBER, WORD, END
	rule        string
	ways        [][]*form
	least, most int
	body        bool
}

// reader takes the grammar apart.
type reader struct {
	words []string
}

func (r *reader) ways() [][]*form {
	out := [][]*form{nil}
	for len(r.words) > 0 {
		word := r.words[0]
		r.words = r.words[1:]
		one := &form{least: 1, most: 1}
		switch {
		case word == "|":
			out = append(out, nil)
			continue
		case word == ")" || word == "]":
			return out
		case word == "(" || word == "[" || word == "#(":
			one.ways, one.body = r.ways(), word == "#("
			if word == "[" {
				one.least = 0
			}
		case word[0] == '\'' || strings.ToUpper(word) == word:
			one.token = word
		default:
			one.rule = word
		}
		if len(r.words) > 0 && (r.words[0][0] == '*' || r.words[0][0] == '+') {
			one.least = strings.IndexByte("*+", r.words[0][0])
			one.most, _ = strconv.Atoi(r.words[0][1:])
			r.words = r.words[1:]
		}
		last := len(out) - 1
		out[last] = append(out[last], one)
	}
	return out
}

// model knows all sources that go on from what was read: each thread is one way to have read it.
type model struct{ threads []thread }

// thread: what is still to come, innermost first; how many bodies are open.
type thread struct {
	rest   *frame
	bodies int
}

// frame: a form, how often it has stood already; or the end of a body.
type frame struct {
	of    *form
	had   int
	shut  bool
	below *frame
}

// step is a token that a thread could go on with, and why it may not.
type step struct {
	token      string
	to         thread
	many, deep bool
}

var rules = readGrammar()

func readGrammar() map[string][][]*form {
	rules := map[string][][]*form{}
	for _, line := range strings.Split(strings.TrimSpace(grammar), "\n") {
		words := strings.Fields(line)
		rules[words[0]] = (&reader{words[2:]}).ways()
	}
	return rules
}

func newModel() *model {
	start := &frame{of: &form{rule: "source", least: 1, most: 1}}
	return &model{[]thread{{rest: start}}}
}

// steps are all that a thread can go on with, the forbidden ones too.
func steps(now step, out []step) []step {
	top := now.to.rest
	if top == nil {
		return out
	}
	if top.shut {
		now.to = thread{top.below, now.to.bodies - 1}
		return steps(now, out)
	}
	if top.had >= top.of.least {
		past := now
		past.to.rest = top.below
		out = steps(past, out)
	}
	// One more than may be is looked at, once: it is told as such.
	if top.had > top.of.most {
		return out
	}
	now.many = now.many || top.had == top.of.most
	below := top.below
	if top.of.most > 1 {
		below = &frame{of: top.of, had: top.had + 1, below: top.below}
	}
	return within(now, top.of, below, out)
}

func within(now step, of *form, below *frame, out []step) []step {
	if of.token != "" {
		now.token, now.to.rest = of.token, below
		return append(out, now)
	}
	if of.body {
		now.to.bodies++
		now.deep = now.deep || now.to.bodies > mostBodies
		below = &frame{shut: true, below: below}
	}
	ways := of.ways
	if of.rule != "" {
		ways = rules[of.rule]
	}
	for _, way := range ways {
		rest := below
		for i := len(way) - 1; i >= 0; i-- {
			rest = &frame{of: way[i], below: rest}
		}
		one := now
		one.to.rest = rest
		out = steps(one, out)
	}
	return out
}

func fits(token string, k api.Token) bool {
	switch token {
	case "NAME":
		return k.Kind == api.TokenName
	case "NUMBER":
		return k.Kind == api.TokenNumber
	case "WORD":
		return k.Kind == api.TokenNumber && k.Number >= 0
	case "END":
		return k.Kind == api.TokenEnd
	}
	return (k.Kind == api.TokenWord || k.Kind == api.TokenSign) && token == "'"+k.Text
}

// take goes on by a token, or says what is wrong with it.
func (m *model) take(k api.Token) api.Errno {
	var next []thread
	wrong := api.ErrSyntaxToken
	for _, now := range m.threads {
		for _, s := range steps(step{to: now}, nil) {
			switch {
			case !fits(s.token, k):
			case s.deep:
				wrong = api.ErrSyntaxDeep
			case s.many && wrong == api.ErrSyntaxToken:
				wrong = api.ErrSyntaxMany
			case !s.many:
				next = append(next, s.to)
			}
		}
	}
	if len(next) == 0 {
		return wrong
	}
	m.threads = next
	return api.OK
}

// after is the model behind some tokens; what is wrong, and where. It is left as it was where something is.
func after(s string) (*model, api.Errno, int) {
	tokens, e, place := lex.Scan(s)
	if e != api.OK {
		return nil, e, place
	}
	m := newModel()
	for _, k := range tokens[:len(tokens)-1] {
		if e := m.take(k); e != api.OK {
			return m, e, k.At
		}
	}
	return m, api.OK, 0
}

// verdict is what the chapter asks of Parse, but for the tree.
func verdict(s string) (api.Errno, int) {
	m, e, place := after(s)
	if e == api.OK {
		e = m.take(api.Token{Kind: api.TokenEnd})
		if e != api.OK {
			place = len(s)
		}
	}
	return e, place
}

// verdictBehind is that of one token more, behind a source's beginning that the model has read.
func verdictBehind(m *model, front, token string) (api.Errno, int) {
	one, _, _ := lex.Scan(token)
	next := *m
	if e := next.take(one[0]); e != api.OK {
		return e, len(front)
	}
	if e := next.take(api.Token{Kind: api.TokenEnd}); e != api.OK {
		return e, len(front + token)
	}
	return api.OK, 0
}

func checkModel(t *testing.T, s string) {
	t.Helper()
	want, wantAt := verdict(s)
	got, e, place := syntax.Parse(s)
	if e != want || place != wantAt || (e == api.OK) != (got.Kind == api.NodeSource) || e != api.OK && !equal(got, tree{}) {
		t.Fatalf("Parse(%s) = %v, %d, %d, not %d, %d", short(s), got, e, place, want, wantAt)
	}
}

// alphabet is a token of each kind, and all words and signs.
var alphabet = strings.Fields("bool case const default double enum float hyper int opaque program quadruple string struct switch typedef union unsigned version void { } ( ) [ ] < > = ; : , * a 1 -1")

func checkBehind(t *testing.T, m *model, front, token string) {
	t.Helper()
	want, wantAt := verdictBehind(m, front, token)
	if _, e, place := syntax.Parse(front + token); e != want || place != wantAt {
		t.Fatalf("Parse(%s) = %d, %d, not %d, %d", short(front+token), e, place, want, wantAt)
	}
}

// TestShortSources: each row of tokens that a source can begin with, and each token behind it.
func TestShortSources(t *testing.T) {
	tried := 0
	var try func(s string, left int)
	try = func(s string, left int) {
		m, e, _ := after(s)
		if e != api.OK {
			return
		}
		tried++
		for _, text := range alphabet {
			checkBehind(t, m, s, text)
			if left > 0 {
				try(s+text+" ", left-1)
			}
		}
	}
	try("", 8)
	if tried < 1000 {
		t.Errorf("only %d", tried)
	}
}

// corpus has each rule of the table, and each way of it.
var corpus = []string{
	"const A = -5 ;", "typedef opaque a < > ;", "typedef opaque a [ 1 ] ;", "typedef string a < N > ;", "typedef n * a ;",
	"enum e { A = 1 , B = A , C = -1 } ;",
	"struct s { void ; int a ; unsigned int b ; hyper c [ 3 ] ; unsigned hyper d < N > ; float * e ; double f < > ; bool g ; opaque h [ N ] ; opaque i < 4 > ; string j < > ; n k ; } ;",
	"union u switch ( enum { A = 1 } d ) { case 1 : case A : int a ; case -1 : struct { int b ; } c ; default : void ; } ;",
	"typedef union switch ( void ) { case 0 : union switch ( int a ) { case 1 : void ; } b [ 1 ] ; } * c ; const A = 1 ;",
	"program P { version V { void N ( void ) = 0 ; n A ( int , unsigned hyper , n , bool ) = 1 ; } = 2 ; version W { unsigned int B ( double ) = 3 ; } = 4 ; } = 5 ; struct s { int a ; } ;",
}

// fullCorpus has as much of everything as there may be, so that each token stands once where one more would begin.
func fullCorpus() []string {
	deep := "struct s { " + strings.Repeat("struct { ", 7)
	shut := strings.Repeat("} a ; ", 7) + "} ;"
	var out []string
	for _, c := range limits {
		out = append(out, c.source(c.most))
	}
	return append(out, deep+"int a ; "+shut, deep+strings.Repeat("int a ; ", 64)+shut, deep[:len(deep)-9]+"union switch ( int d ) { case 1 : void ; "+shut)
}

// mended is a row of tokens with some of them in the place of another.
func mended(tokens []string, from, to int, with ...string) string {
	return strings.Join(tokens[:from], " ") + " " + strings.Join(with, " ") + " " + strings.Join(tokens[to:], " ")
}

// TestTokensSpoilt: each token left out, doubled, another one in its place or ahead of it; and the end there.
func TestTokensSpoilt(t *testing.T) {
	for _, s := range corpus {
		tokens := strings.Fields(s)
		checkModel(t, s)
		for i, k := range tokens {
			checkModel(t, mended(tokens, i, i+1))
			checkModel(t, mended(tokens, i, i, k))
			checkModel(t, strings.Join(tokens[:i], " "))
			for _, other := range alphabet {
				checkModel(t, mended(tokens, i, i+1, other))
				checkModel(t, mended(tokens, i, i, other))
			}
			if i+1 < len(tokens) {
				checkModel(t, mended(tokens, i, i+2, tokens[i+1], k))
			}
		}
		for _, other := range alphabet {
			checkModel(t, s+" "+other)
		}
	}
}

// spaced is a source with a blank behind each token.
func spaced(t *testing.T, s string) []string {
	t.Helper()
	tokens, e, _ := lex.Scan(s)
	if e != api.OK {
		t.Fatalf("%s: %d", short(s), e)
	}
	var out []string
	for i, k := range tokens[:len(tokens)-1] {
		out = append(out, strings.TrimSpace(s[k.At:tokens[i+1].At]))
	}
	return out
}

// TestFullSpoilt: where there are as many as may be, each token behind some of the tokens.
func TestFullSpoilt(t *testing.T) {
	for _, s := range fullCorpus() {
		tokens := spaced(t, s)
		checkModel(t, s)
		for back := 0; back < 24 && back <= len(tokens); back++ {
			front := strings.Join(tokens[:len(tokens)-back], " ") + " "
			m, e, place := after(front)
			if e != api.OK {
				t.Fatalf("%s: %d, %d", short(front), e, place)
			}
			for _, other := range alphabet {
				checkBehind(t, m, front, other)
			}
		}
	}
}

// TestAgainstModel: rows of tokens, most of which go on with a source, and pieces of sources put together.
func TestAgainstModel(t *testing.T) {
	r := rand.New(rand.NewSource(8))
	for range 3000 {
		var row []string
		for range 1 + r.Intn(3) {
			tokens := strings.Fields(corpus[r.Intn(len(corpus))])
			from := r.Intn(2) * r.Intn(len(tokens))
			row = append(row, tokens[from:from+r.Intn(len(tokens)-from+1)]...)
		}
		checkModel(t, strings.Join(row, " "))
		for range 1 + r.Intn(3) {
			if len(row) > 0 {
				row[r.Intn(len(row))] = alphabet[r.Intn(len(alphabet))]
			}
		}
		checkModel(t, strings.Join(row, " "))
	}
}

// TestNothingBehindCounts is S4's last part.
func TestNothingBehindCounts(t *testing.T) {
	r := rand.New(rand.NewSource(9))
	seen := map[api.Errno]int{}
	var sources [][]string
	for _, s := range append(fullCorpus(), corpus...) {
		sources = append(sources, spaced(t, s))
	}
	for range 3000 {
		tokens := sources[r.Intn(len(sources))]
		cut := max(0, len(tokens)-r.Intn(12))
		if r.Intn(3) == 0 {
			cut = r.Intn(len(tokens) + 1)
		}
		s := strings.Join(tokens[:cut], " ") + " " + alphabet[r.Intn(len(alphabet))] + " "
		if r.Intn(20) == 0 {
			s = "struct s{" + strings.Repeat("union switch(", 7) + alphabet[r.Intn(len(alphabet))] + " "
		}
		_, e, place := syntax.Parse(s)
		if e == api.OK || place == len(s) {
			continue
		}
		seen[e]++
		for range 5 {
			longer := s
			for range r.Intn(20) {
				longer += alphabet[r.Intn(len(alphabet))] + " "
			}
			if len(longer) <= api.MaxSource {
				wantFault(t, longer, e, place)
			}
		}
	}
	for _, e := range []api.Errno{api.ErrSyntaxToken, api.ErrSyntaxMany, api.ErrSyntaxDeep} {
		if seen[e] < 10 {
			t.Errorf("error %d came %d times", e, seen[e])
		}
	}
}

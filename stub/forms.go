package stub

import (
	"strconv"
	"strings"

	"callbox/api"
	"callbox/lex"
)

// A form is a line in which marks stand for what is not the same in all lines of that form. Lines are filled in and read by the same forms, so that these cannot part.
const (
	headForm  = "package stub\n"
	constForm = "const Name_$ = #\n"
	typeForm  = "var Name_$ = @\n"
	frontForm = "func @(x *Run) {\n"
	tailForm  = "}\n"
)

// The marks: bytes that no form has of its own.
const (
	markName    = '$'
	markA       = '#'
	markB       = '@' // the word of B's type
	markElse    = '?' // the word of A's type, or that there is none
	markNumbers = '%' // those of T
	markPairs   = '&' // those of T
)

// opForms: at each operation's number its form. OpEnd has no line.
var opForms = [...]string{
	api.OpVoid:   "\tx.Void()\n",
	api.OpInt:    "\tx.Int()\n",
	api.OpUint:   "\tx.Uint()\n",
	api.OpHyper:  "\tx.Hyper()\n",
	api.OpUhyper: "\tx.Uhyper()\n",
	api.OpFloat:  "\tx.Float()\n",
	api.OpDouble: "\tx.Double()\n",
	api.OpBool:   "\tx.Bool()\n",
	api.OpEnum:   "\tx.Enum(%)\n",
	api.OpFixed:  "\tx.Fixed(#)\n",
	api.OpOpaque: "\tx.Opaque(#)\n",
	api.OpString: "\tx.String(#)\n",
	api.OpArray:  "\tx.Array(#, @)\n",
	api.OpList:   "\tx.List(#, @)\n",
	api.OpMaybe:  "\tx.Maybe(@)\n",
	api.OpStruct: "\tx.Struct(#)\n",
	api.OpCall:   "\t@(x)\n",
	api.OpUnion:  "\tx.Union(@, ?&)\n",
}

const (
	between    = ", "
	noElse     = -1
	noElseWord = "nil"
	mostDigits = 10
)

// blanks are what stands in a line at the marks of its form: a Name, and what an operation has. Types are named by their places, not by their entries.
type blanks struct {
	name string
	op   api.Op
}

// fill is the line of a form.
func (b blanks) fill(form string) string {
	var line []byte
	for i := range len(form) {
		switch form[i] {
		case markName:
			line = append(line, b.name...)
		case markA:
			line = appendNumber(line, b.op.A)
		case markB:
			line = appendWord(line, b.op.B)
		case markElse:
			line = appendElse(line, b.op.A)
		case markNumbers:
			line = appendNumbers(line, b.op.T)
		case markPairs:
			line = appendPairs(line, b.op.T)
		default:
			line = append(line, form[i])
		}
	}
	return string(line)
}

func appendNumber(line []byte, n int) []byte { return strconv.AppendInt(line, int64(n), 10) }

func appendWord(line []byte, place int) []byte { return appendNumber(append(line, 't'), place) }

func appendElse(line []byte, place int) []byte {
	if place == noElse {
		return append(line, noElseWord...)
	}
	return appendWord(line, place)
}

func appendNumbers(line []byte, numbers []int) []byte {
	for i, n := range numbers {
		if i > 0 {
			line = append(line, between...)
		}
		line = appendNumber(line, n)
	}
	return line
}

func appendPairs(line []byte, turns []int) []byte {
	for i, n := range turns {
		line = append(line, between...)
		if i%2 == 0 {
			line = appendNumber(line, n)
		} else {
			line = appendWord(line, n)
		}
	}
	return line
}

// match reads a line of a form; false, if it is none of that form.
func match(form, line string) (blanks, bool) {
	var b blanks
	c := &cursor{rest: line}
	for i := range len(form) {
		switch form[i] {
		case markName:
			b.name = c.name()
		case markA:
			b.op.A = c.number()
		case markB:
			b.op.B = c.word()
		case markElse:
			b.op.A = c.otherwise()
		case markNumbers:
			b.op.T = c.numbers()
		case markPairs:
			b.op.T = c.pairs()
		default:
			c.must(form[i : i+1])
		}
		if c.wrong {
			return blanks{}, false
		}
	}
	return b, c.rest == ""
}

// cursor goes through a line; once something was wrong, it stays so.
type cursor struct {
	rest  string
	wrong bool
}

// cut goes behind a text, if that is next.
func (c *cursor) cut(text string) bool {
	rest, found := strings.CutPrefix(c.rest, text)
	c.rest = rest
	return found
}

func (c *cursor) must(text string) { c.wrong = !c.cut(text) || c.wrong }

func (c *cursor) number() int {
	if !c.cut("-") {
		return c.natural()
	}
	n := c.natural()
	c.wrong = c.wrong || n == 0
	return -n
}

// natural is a number that is not below 0. A digit beyond the most that there may be is left, and no form goes on with one.
func (c *cursor) natural() int {
	n, digits := 0, 0
	for digits < min(mostDigits, len(c.rest)) && isDigit(c.rest[digits]) {
		n = n*10 + int(c.rest[digits]-'0')
		digits++
	}
	ahead := digits > 1 && c.rest[0] == '0'
	c.wrong = c.wrong || digits == 0 || ahead
	c.rest = c.rest[digits:]
	return n
}

func isDigit(b byte) bool { return b >= '0' && b <= '9' }

func (c *cursor) word() int {
	c.must("t")
	return c.natural()
}

func (c *cursor) otherwise() int {
	if c.cut(noElseWord) {
		return noElse
	}
	return c.word()
}

func (c *cursor) numbers() []int {
	if strings.HasPrefix(c.rest, ")") {
		return nil
	}
	numbers := []int{c.number()}
	for c.cut(between) {
		numbers = append(numbers, c.number())
	}
	return numbers
}

func (c *cursor) pairs() []int {
	var turns []int
	for c.cut(between) {
		n := c.number()
		c.must(between)
		turns = append(turns, n, c.word())
	}
	return turns
}

func (c *cursor) name() string {
	name, _, _ := strings.Cut(c.rest, " ")
	c.wrong = c.wrong || !lex.IsName(name)
	c.rest = c.rest[len(name):]
	return name
}

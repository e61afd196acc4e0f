package stub_test

import (
	"fmt"
	"reflect"
	"regexp"
	"slices"
	"strconv"
	"strings"

	"callbox/api"
	"callbox/codec"
	"callbox/lex"
	"callbox/stub"
)

// The chapter said again: lines are known by regular expressions, and a text by that of its lines' letters.

const (
	number = `(?:0|-?[1-9][0-9]{0,9})`
	word   = `t(?:0|[1-9][0-9]{0,9})`
	aName  = `([A-Za-z][A-Za-z0-9_]{0,31})`
)

// shapes are the operations' lines; of a union's pairs the text is taken whole.
var shapes = map[int]*regexp.Regexp{}

var (
	constShape = regexp.MustCompile(`\Aconst Name_` + aName + ` = (` + number + `)\n\z`)
	typeShape  = regexp.MustCompile(`\Avar Name_` + aName + ` = (` + word + `)\n\z`)
	frontShape = regexp.MustCompile(`\Afunc (` + word + `)\(x \*Run\) \{\n\z`)
	textShape  = regexp.MustCompile(`\A(H([CV]*|[CV]*F(O|EF)*E?))?\z`)
	wholeShape = regexp.MustCompile(`\AH[CV]*F(O|EF)*E\z`)
)

func init() {
	shape := func(code int, form string) { shapes[code] = regexp.MustCompile(`\A\t` + form + `\n\z`) }
	for i, plain := range strings.Fields("Void Int Uint Hyper Uhyper Float Double Bool") {
		shape(api.OpVoid+i, `x\.`+plain+`\(\)`)
	}
	shape(api.OpEnum, `x\.Enum\(((?:`+number+`(?:, `+number+`)*)?)\)`)
	shape(api.OpFixed, `x\.Fixed\((`+number+`)\)`)
	shape(api.OpOpaque, `x\.Opaque\((`+number+`)\)`)
	shape(api.OpString, `x\.String\((`+number+`)\)`)
	shape(api.OpArray, `x\.Array\((`+number+`), (`+word+`)\)`)
	shape(api.OpList, `x\.List\((`+number+`), (`+word+`)\)`)
	shape(api.OpMaybe, `x\.Maybe\((`+word+`)\)`)
	shape(api.OpStruct, `x\.Struct\((`+number+`)\)`)
	shape(api.OpCall, `(`+word+`)\(x\)`)
	shape(api.OpUnion, `x\.Union\((`+word+`), (`+word+`|nil)((?:, `+number+`, `+word+`)*)\)`)
}

// letterOf is what a line is, X if it has no form; fronts are counted.
func letterOf(line string, fronts *int) string {
	if m := frontShape.FindStringSubmatch(line); m != nil {
		*fronts++
		if m[1] == "t"+strconv.Itoa(*fronts-1) {
			return "F"
		}
		return "X"
	}
	for letter, shape := range map[string]*regexp.Regexp{"C": constShape, "V": typeShape} {
		if m := shape.FindStringSubmatch(line); m != nil && !lex.IsWord(m[1]) {
			return letter
		}
	}
	switch line {
	case "package stub\n":
		return "H"
	case "}\n":
		return "E"
	}
	for _, shape := range shapes {
		if shape.MatchString(line) {
			return "O"
		}
	}
	return "X"
}

// modelLine is the first wrong line of a text, 0 if there is none.
func modelLine(lines []string) int {
	letters, fronts := "", 0
	for i, line := range lines {
		letters += letterOf(line, &fronts)
		if !textShape.MatchString(letters) {
			return i + 1
		}
	}
	if !wholeShape.MatchString(letters) {
		return len(lines) + 1
	}
	return 0
}

// valueOf is a number, or that of a type's word; nil is -1.
func valueOf(s string) int {
	if s == "nil" {
		return -1
	}
	n, err := strconv.Atoi(strings.TrimPrefix(s, "t"))
	if err != nil {
		panic(err)
	}
	return n
}

// modelOp is an operation that names types by their places.
func modelOp(line string) api.Op {
	for code, shape := range shapes {
		m := shape.FindStringSubmatch(line)
		if m == nil {
			continue
		}
		op := api.Op{Code: code}
		switch code {
		case api.OpEnum:
			for _, n := range strings.FieldsFunc(m[1], func(r rune) bool { return r == ',' || r == ' ' }) {
				op.T = append(op.T, valueOf(n))
			}
		case api.OpFixed, api.OpOpaque, api.OpString, api.OpStruct:
			op.A = valueOf(m[1])
		case api.OpArray, api.OpList:
			op.A, op.B = valueOf(m[1]), valueOf(m[2])
		case api.OpMaybe, api.OpCall:
			op.B = valueOf(m[1])
		case api.OpUnion:
			op.B, op.A = valueOf(m[1]), valueOf(m[2])
			for _, n := range strings.FieldsFunc(m[3], func(r rune) bool { return r == ',' || r == ' ' }) {
				op.T = append(op.T, valueOf(n))
			}
		}
		return op
	}
	return api.Op{}
}

// modelLink names entries, where types were named; of what is no type that is no entry.
func modelLink(op *api.Op, entries []int) {
	link := func(n *int) {
		if *n < len(entries) {
			*n = entries[*n]
		} else {
			*n = -7
		}
	}
	if slices.Contains([]int{api.OpArray, api.OpList, api.OpMaybe, api.OpCall, api.OpUnion}, op.Code) {
		link(&op.B)
	}
	if op.Code == api.OpUnion {
		if op.A != -1 {
			link(&op.A)
		}
		for i := range op.T {
			if i%2 == 1 {
				link(&op.T[i])
			}
		}
	}
}

// modelRead is Read, of texts that are not too long.
func modelRead(s string) (api.Code, []api.Named, api.Errno, int) {
	lines := strings.SplitAfter(s, "\n")
	if lines[len(lines)-1] == "" {
		lines = lines[:len(lines)-1]
	}
	if n := modelLine(lines); n != 0 {
		return api.Code{}, nil, api.ErrStubForm, n
	}
	var c api.Code
	var names []api.Named
	for _, line := range lines[1:] {
		if m := constShape.FindStringSubmatch(line); m != nil {
			names = append(names, api.Named{Name: m[1], Const: true, Value: valueOf(m[2])})
		} else if m := typeShape.FindStringSubmatch(line); m != nil {
			names = append(names, api.Named{Name: m[1], Value: valueOf(m[2])})
		} else if frontShape.MatchString(line) {
			c.Entries = append(c.Entries, len(c.Ops))
		} else {
			c.Ops = append(c.Ops, modelOp(line))
		}
	}
	for i := range c.Ops {
		modelLink(&c.Ops[i], c.Entries)
	}
	if !modelRight(c, names) {
		return api.Code{}, nil, api.ErrStubForm, 0
	}
	return c, names, api.OK, 0
}

func modelRight(c api.Code, names []api.Named) bool {
	if !codec.Right(c) {
		return false
	}
	for i, n := range names {
		shape := regexp.MustCompile(`\A` + aName + `\z`)
		if !shape.MatchString(n.Name) || lex.IsWord(n.Name) {
			return false
		}
		if n.Const && (n.Value < -2147483648 || n.Value > 4294967295) || !n.Const && (n.Value < 0 || n.Value >= len(c.Entries)) {
			return false
		}
		for _, m := range names[:i] {
			if m.Name == n.Name {
				return false
			}
		}
	}
	return true
}

// modelPrint is Print.
func modelPrint(c api.Code, names []api.Named) (string, api.Errno) {
	if !modelRight(c, names) {
		return "", api.ErrStubForm
	}
	var lines []string
	say := func(form string, parts ...any) { lines = append(lines, fmt.Sprintf(form, parts...)+"\n") }
	say("package stub")
	for _, n := range names {
		if n.Const {
			say("const Name_%s = %d", n.Name, n.Value)
		} else {
			say("var Name_%s = t%d", n.Name, n.Value)
		}
	}
	for i, op := range c.Ops {
		if place := slices.Index(c.Entries, i); place >= 0 {
			say("func t%d(x *Run) {", place)
		}
		say("%s", modelOpLine(op, c.Entries))
	}
	return strings.Join(lines, ""), api.OK
}

func modelOpLine(op api.Op, entries []int) string {
	word := func(entry int) string {
		if entry == -1 {
			return "nil"
		}
		return fmt.Sprint("t", slices.Index(entries, entry))
	}
	switch op.Code {
	case api.OpEnd:
		return "}"
	case api.OpEnum:
		return "\tx.Enum(" + strings.Trim(strings.ReplaceAll(fmt.Sprint(op.T), " ", ", "), "[]") + ")"
	case api.OpFixed:
		return fmt.Sprintf("\tx.Fixed(%d)", op.A)
	case api.OpOpaque:
		return fmt.Sprintf("\tx.Opaque(%d)", op.A)
	case api.OpString:
		return fmt.Sprintf("\tx.String(%d)", op.A)
	case api.OpArray:
		return fmt.Sprintf("\tx.Array(%d, %s)", op.A, word(op.B))
	case api.OpList:
		return fmt.Sprintf("\tx.List(%d, %s)", op.A, word(op.B))
	case api.OpMaybe:
		return fmt.Sprintf("\tx.Maybe(%s)", word(op.B))
	case api.OpStruct:
		return fmt.Sprintf("\tx.Struct(%d)", op.A)
	case api.OpCall:
		return fmt.Sprintf("\t%s(x)", word(op.B))
	case api.OpUnion:
		all := []string{word(op.B), word(op.A)}
		for pair := range slices.Chunk(op.T, 2) {
			all = append(all, strconv.Itoa(pair[0]), word(pair[1]))
		}
		return "\tx.Union(" + strings.Join(all, ", ") + ")"
	}
	return "\tx." + strings.Fields("Void Int Uint Hyper Uhyper Float Double Bool")[op.Code-api.OpVoid] + "()"
}

// readWrong says in what Read of a text is not as the model has it; and if the text is a source, whether Print says it again.
func readWrong(s string) string {
	c, l, e, n := stub.Read(s)
	d, m, f, k := modelRead(s)
	if e != f || n != k || !reflect.DeepEqual(bare(c), bare(d)) || !slices.Equal(l, m) {
		return fmt.Sprintf("%q: %s %v, %d, %d, not %s %v, %d, %d", s, short(c), l, e, n, short(d), m, f, k)
	}
	if again, e := stub.Print(c, l); f == api.OK && (again != s || e != api.OK) {
		return fmt.Sprintf("%q: printed %q, %d", s, again, e)
	}
	return ""
}

// printWrong says in what Print is not as the model has it; and if there is a source, whether Read takes it again.
func printWrong(c api.Code, names []api.Named) string {
	s, e := stub.Print(c, names)
	want, f := modelPrint(c, names)
	if s != want || e != f {
		return fmt.Sprintf("%s %v: %q, %d, not %q, %d", short(c), names, s, e, want, f)
	}
	if e != api.OK {
		return ""
	}
	d, l, e, n := stub.Read(s)
	if e != api.OK || n != 0 || !reflect.DeepEqual(bare(c), bare(d)) || !slices.Equal(l, names) {
		return fmt.Sprintf("%q: %s %v, %d, %d", s, short(d), l, e, n)
	}
	return ""
}

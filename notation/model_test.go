package notation_test

import (
	"encoding/hex"
	"fmt"
	"math"
	"math/big"
	"regexp"
	"slices"
	"strconv"
	"strings"

	"callbox/api"
	"callbox/schema"
	"callbox/value"
)

// What follows is the chapter once more, said in another way: by patterns and big numbers, and by a text that is cut off from its front; what is wrong is thrown.

type thrown struct {
	e  api.Errno
	at int
}

var (
	atomForm   = regexp.MustCompile(`^[A-Za-z0-9_.+-]*`)
	wholeForm  = regexp.MustCompile(`^(0|-?[1-9][0-9]*)$`)
	digitsForm = regexp.MustCompile(`^#[0-9a-f]*`)
	unitsForm  = regexp.MustCompile(`^([ !#-\[\]-~]|\\["\\]|\\x([01][0-9a-f]|7f|[89a-f][0-9a-f]))*`)
	unitForm   = regexp.MustCompile(`\\x..|\\.|.`)
)

// modelUnits is how many bytes of a text, from its front on, are what may stand within a string's text.
func modelUnits(s string) int {
	// The library's patterns are of runes: bytes are handed to them as runes below 256.
	return len([]rune(unitsForm.FindString(latin(s))))
}

func latin(s string) string {
	var out []rune
	for i := range len(s) {
		out = append(out, rune(s[i]))
	}
	return string(out)
}

// floatText is the text of a number with a point, by the library's.
func floatText(f float64) string {
	switch {
	case math.IsNaN(f):
		return "nan"
	case math.IsInf(f, 0):
		return strings.TrimPrefix(strings.ToLower(fmt.Sprint(f)), "+")
	}
	s := strconv.FormatFloat(f, 'x', -1, 64)
	at := strings.IndexByte(s, 'p') + 2
	return s[:at] + strings.TrimPrefix(s[at:], "0")
}

func noType(x api.Schema, t int) bool { return t < 0 || t >= len(x.Types) || !schema.Right(x) }

// modelPrint is V1.
func modelPrint(x api.Schema, t int, v api.Value) (string, api.Errno) {
	if e := value.Fits(x, t, v); e != api.OK {
		return "", e
	}
	s := modelText(x, t, v)
	if len(s) > 8000 {
		return "", api.ErrNotationLong
	}
	return s, api.OK
}

// modelText is a value's text, however long, of values that may be too deep or too long too.
func modelText(x api.Schema, t int, v api.Value) string {
	y := x.Types[t]
	var each []string
	switch y.Kind {
	case api.Void:
		return "void"
	case api.Int, api.Uint, api.Hyper:
		return big.NewInt(int64(v.Int)).String()
	case api.Uhyper:
		return new(big.Int).SetUint64(uint64(v.Int)).String()
	case api.Float:
		return floatText(float64(v.Single))
	case api.Double:
		return floatText(v.Double)
	case api.Bool:
		return strings.ToUpper(strconv.FormatBool(v.Int == 1))
	case api.Enum:
		for _, m := range y.Members {
			if m.Number == v.Int {
				return m.Name
			}
		}
	case api.Fixed, api.Opaque:
		return "#" + hex.EncodeToString([]byte(v.Text))
	case api.String:
		return modelQuote(v.Text)
	case api.Array, api.List:
		for _, part := range v.Items {
			each = append(each, modelText(x, y.Of, part))
		}
		return "[" + strings.Join(each, ",") + "]"
	case api.Maybe:
		for _, part := range v.Items {
			return "*" + modelText(x, y.Of, part)
		}
		return "none"
	case api.Struct:
		for i, f := range y.Fields {
			each = append(each, f.Name+"="+modelText(x, f.Type, v.Items[i]))
		}
		return "{" + strings.Join(each, ",") + "}"
	case api.Union:
		told := modelText(x, y.Of, api.Value{Int: v.Int})
		if arm := modelArm(y, v.Int); arm.Name != "" {
			return "(" + told + ":" + arm.Name + "=" + modelText(x, arm.Type, v.Items[0]) + ")"
		}
		return "(" + told + ")"
	}
	return "?"
}

func modelQuote(s string) string {
	out := `"`
	for _, b := range []byte(s) {
		switch {
		case strings.IndexByte(`"\`, b) >= 0:
			out += `\` + string(rune(b))
		case b < 32 || b > 126:
			out += fmt.Sprintf(`\x%02x`, b)
		default:
			out += string(rune(b))
		}
	}
	return out + `"`
}

// modelArm is the arm for a number; nil, if there is none.
func modelArm(y api.Type, n int) *api.Arm {
	arms := map[int]int{}
	for i, a := range y.Arms {
		for _, c := range a.Cases {
			arms[c] = i
		}
	}
	i, is := arms[n]
	if !is && y.Else == -1 {
		return nil
	}
	if !is {
		i = y.Else
	}
	return &y.Arms[i]
}

// model reads: left is what is left of a text of so many bytes.
type model struct {
	types []api.Type
	size  int
	left  string
}

// modelParse is V2.
func modelParse(x api.Schema, t int, s string) (v api.Value, e api.Errno, at int) {
	defer func() {
		if r := recover(); r != nil {
			w := r.(thrown)
			v, e, at = api.Value{}, w.e, w.at
		}
	}()
	if noType(x, t) {
		return api.Value{}, api.ErrValueSchema, 0
	}
	if len(s) > 8000 {
		return api.Value{}, api.ErrNotationLong, 8000
	}
	m := &model{x.Types, len(s), s}
	got := m.read(t)
	m.refuse(m.left != "", api.ErrNotationForm, m.here())
	switch {
	case modelDepth(got) > 64:
		panic(thrown{api.ErrValueDeep, 0})
	case modelSize(x, t, got) > 1000:
		panic(thrown{api.ErrValueLong, 0})
	}
	return got, api.OK, 0
}

func (m *model) here() int { return m.size - len(m.left) }

func (m *model) refuse(wrong bool, e api.Errno, at int) {
	if wrong {
		panic(thrown{e, at})
	}
}

// take reads marks, one after the other.
func (m *model) take(marks ...string) {
	for _, b := range strings.Join(marks, "") {
		m.refuse(m.left == "" || m.left[0] != byte(b), api.ErrNotationForm, m.here())
		m.left = m.left[1:]
	}
}

func (m *model) match(form *regexp.Regexp) string {
	got := form.FindString(m.left)
	m.left = m.left[len(got):]
	return got
}

func (m *model) number(y api.Type) int {
	at := m.here()
	s := m.match(atomForm)
	if y.Kind == api.Bool {
		i := slices.Index([]string{"FALSE", "TRUE"}, s)
		m.refuse(i < 0, api.ErrNotationForm, at)
		return i
	}
	if y.Kind == api.Enum {
		numbers := map[string]int{}
		for _, member := range y.Members {
			numbers[member.Name] = member.Number
		}
		n, is := numbers[s]
		m.refuse(!is, api.ErrNotationForm, at)
		return n
	}
	bounds := map[int][2]string{
		api.Int:    {"-2147483648", "2147483647"},
		api.Uint:   {"0", "4294967295"},
		api.Hyper:  {"-9223372036854775808", "9223372036854775807"},
		api.Uhyper: {"0", "18446744073709551615"},
	}[y.Kind]
	m.refuse(!wholeForm.MatchString(s) || bounds[0] == "0" && strings.Contains(s, "-"), api.ErrNotationForm, at)
	n, low, high := new(big.Int), new(big.Int), new(big.Int)
	n.SetString(s, 10)
	low.SetString(bounds[0], 10)
	high.SetString(bounds[1], 10)
	m.refuse(n.Cmp(low) < 0 || n.Cmp(high) > 0, api.ErrNotationRange, at)
	if n.IsInt64() {
		return int(n.Int64())
	}
	return int(n.Sub(n, new(big.Int).Lsh(big.NewInt(1), 64)).Int64())
}

// float is a number with a point of so many bits: what the library reads must have that text again.
func (m *model) float(bits int) float64 {
	at := m.here()
	s := m.match(atomForm)
	f, err := strconv.ParseFloat(s, bits)
	m.refuse(err != nil || floatText(f) != s, api.ErrNotationForm, at)
	return f
}

func (m *model) read(t int) api.Value {
	y := m.types[t]
	v := api.Value{Kind: y.Kind}
	at := m.here()
	switch y.Kind {
	case api.Void:
		m.refuse(m.match(atomForm) != "void", api.ErrNotationForm, at)
	case api.Int, api.Uint, api.Hyper, api.Uhyper, api.Bool, api.Enum:
		v.Int = m.number(y)
	case api.Float:
		v.Single = float32(m.float(32))
	case api.Double:
		v.Double = m.float(64)
	case api.Fixed, api.Opaque:
		v.Text = m.opaque(y)
	case api.String:
		v.Text = m.chars(y)
	case api.Array, api.List:
		m.take("[")
		for more := !strings.HasPrefix(m.left, "]"); more; more = !strings.HasPrefix(m.left, "]") {
			if v.Items != nil {
				m.take(",")
			}
			v.Items = append(v.Items, m.read(y.Of))
		}
		m.take("]")
		m.refuse(y.Kind == api.Array && len(v.Items) != y.Size || len(v.Items) > y.Size, api.ErrNotationRange, at)
	case api.Maybe:
		if strings.HasPrefix(m.left, "*") {
			m.take("*")
			v.Items = []api.Value{m.read(y.Of)}
			break
		}
		m.refuse(m.match(atomForm) != "none", api.ErrNotationForm, at)
	case api.Struct:
		for i, f := range y.Fields {
			m.take(strings.Repeat("{", 1-min(i, 1)), strings.Repeat(",", min(i, 1)), f.Name, "=")
			v.Items = append(v.Items, m.read(f.Type))
		}
		m.take("}")
	case api.Union:
		m.take("(")
		v.Int = m.number(m.types[y.Of])
		arm := modelArm(y, v.Int)
		m.refuse(arm == nil, api.ErrNotationRange, at+1)
		v.Items = []api.Value{{}}
		if arm.Name != "" {
			m.take(":", arm.Name, "=")
			v.Items[0] = m.read(arm.Type)
		}
		m.take(")")
	}
	return v
}

func (m *model) opaque(y api.Type) string {
	at := m.here()
	s := m.match(digitsForm)
	m.refuse(s == "", api.ErrNotationForm, at)
	got, err := hex.DecodeString(s[1:])
	m.refuse(err != nil, api.ErrNotationForm, at)
	m.refuse(y.Kind == api.Fixed && len(got) != y.Size || len(got) > y.Size, api.ErrNotationRange, at)
	return string(got)
}

func (m *model) chars(y api.Type) string {
	at := m.here()
	m.take(`"`)
	n := modelUnits(m.left)
	within := m.left[:n]
	m.left = m.left[n:]
	m.take(`"`)
	got := unitForm.ReplaceAllStringFunc(within, func(s string) string {
		if len(s) == 4 {
			n, _ := strconv.ParseUint(s[2:], 16, 8)
			return string([]byte{byte(n)})
		}
		return s[len(s)-1:]
	})
	m.refuse(len(got) > y.Size, api.ErrNotationRange, at)
	return got
}

// modelDepth goes down level by level.
func modelDepth(v api.Value) int {
	depth := 0
	for level := []api.Value{v}; len(level) > 0; depth++ {
		var next []api.Value
		for _, one := range level {
			next = append(next, one.Items...)
		}
		level = next
	}
	return depth
}

// modelSize is how many bytes a value is laid down as.
func modelSize(x api.Schema, t int, v api.Value) int {
	y := x.Types[t]
	size := 4
	switch y.Kind {
	case api.Void, api.Array, api.Struct:
		size = 0
	case api.Hyper, api.Uhyper, api.Double:
		size = 8
	case api.Fixed:
		size = (len(v.Text) + 3) / 4 * 4
	case api.Opaque, api.String:
		size = 4 + (len(v.Text)+3)/4*4
	}
	for i, part := range v.Items {
		switch y.Kind {
		case api.Struct:
			size += modelSize(x, y.Fields[i].Type, part)
		case api.Union:
			size += modelSize(x, modelArm(y, v.Int).Type, part)
		default:
			size += modelSize(x, y.Of, part)
		}
	}
	return size
}

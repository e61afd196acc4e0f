package stub_test

import (
	"math/rand"
	"reflect"
	"slices"
	"strings"
	"testing"

	"callbox/api"
	"callbox/codec"
	"callbox/stub"
)

// makeNames are some right ones for a code of so many types.
func makeNames(r *rand.Rand, types int) []api.Named {
	var names []api.Named
	all := []string{"a", "B", "a_", "a1", "point", "t8", "nil", "x", "Name_a", "TRUE", "integer", strings.Repeat("z", 32)}
	r.Shuffle(len(all), func(i, k int) { all[i], all[k] = all[k], all[i] })
	for _, name := range all[:r.Intn(len(all))] {
		n := api.Named{Name: name, Const: r.Intn(2) == 0, Value: r.Intn(types)}
		if n.Const {
			n.Value = pick(r, 0, 1, -1, 10, -10, 1<<31-1, -1<<31, 1<<31, api.MaxWord, r.Intn(1000000))
		}
		names = append(names, n)
	}
	return names
}

func spoilNames(r *rand.Rand, names []api.Named, types int) []api.Named {
	names = slices.Clone(names)
	if len(names) == 0 {
		return append(names, api.Named{Name: "a", Value: pick(r, -1, types, types-1)})
	}
	n := &names[r.Intn(len(names))]
	switch r.Intn(4) {
	case 0:
		n.Name = pick(r, "", "int", "1", "_", "a b", "a\n", strings.Repeat("z", 33), "fine", names[0].Name)
	case 1:
		n.Value = pick(r, -1, types, types-1, 1<<32-1, 1<<32, -1<<31, -1<<31-1)
	case 2:
		n.Const = !n.Const
	case 3:
		names = append(names, *n)
	}
	return names
}

// TestMade is B1 and B3: each right code with right names has the source that the model says, and is read of it; wrong ones have none.
func TestMade(t *testing.T) {
	r := rand.New(rand.NewSource(1))
	right, badCodes, badNames := 0, 0, 0
	for range 3000 {
		m := newMaker(r)
		c := m.code()
		names := makeNames(r, len(c.Entries))
		if wrong := printWrong(c, names); wrong != "" {
			t.Fatal(wrong)
		}
		d := bare(c)
		m.spoil(&d)
		other := spoilNames(r, names, len(c.Entries))
		for _, wrong := range []string{printWrong(d, names), printWrong(c, other), printWrong(d, other), printWrong(m.anyCode(), nil)} {
			if wrong != "" {
				t.Fatal(wrong)
			}
		}
		switch {
		case !codec.Right(d):
			badCodes++
		case !modelRight(d, other):
			badNames++
		default:
			right++
		}
	}
	if right < 100 || badCodes < 1000 || badNames < 200 {
		t.Errorf("%d, %d, %d", right, badCodes, badNames)
	}
}

// TestTheorem is B3: two codes with names have the same source just if they are the same.
func TestTheorem(t *testing.T) {
	r := rand.New(rand.NewSource(2))
	same, other := 0, 0
	for range 3000 {
		m := newMaker(r)
		c, names := m.code(), makeNames(r, 8)
		d, l := bare(c), slices.Clone(names)
		if r.Intn(2) == 0 {
			m.spoil(&d)
		}
		if r.Intn(2) == 0 {
			l = spoilNames(r, l, len(d.Entries))
		}
		a, e := stub.Print(c, names)
		b, f := stub.Print(d, l)
		if e != api.OK {
			t.Fatal(e)
		}
		if f != api.OK {
			continue
		}
		alike := reflect.DeepEqual(bare(c), bare(d)) && slices.Equal(names, l)
		if alike != (a == b) {
			t.Fatalf("%s %v, %s %v: %t", short(c), names, short(d), l, alike)
		}
		if alike {
			same++
		} else {
			other++
		}
	}
	if same < 500 || other < 300 {
		t.Errorf("%d are the same, %d are not", same, other)
	}
}

// bendNumber changes one number of a text, so that its form mostly stays.
func bendNumber(r *rand.Rand, s string) string {
	var starts []int
	for i := range len(s) {
		if s[i] >= '0' && s[i] <= '9' && (i == 0 || s[i-1] < '0' || s[i-1] > '9') {
			starts = append(starts, i)
		}
	}
	if len(starts) == 0 {
		return s
	}
	at := pick(r, starts...)
	end := at
	for end < len(s) && s[end] >= '0' && s[end] <= '9' {
		end++
	}
	other := pick(r, "0", "1", "2", "7", "8", "9", "10", "12", "-1", "-0", "00", "01", "64", "65", "1000", "1001", "2147483647", "2147483648", "-2147483648", "4294967295", "4294967296", "9999999999", "10000000000", "-9999999999", "-10000000000", "99999999999999999999", "", "nil", "t1")
	return s[:at] + other + s[end:]
}

// bendLine leaves out, doubles, moves, takes over or swaps lines.
func bendLine(r *rand.Rand, s, other string) string {
	lines := strings.SplitAfter(s, "\n")
	i, k := r.Intn(len(lines)), r.Intn(len(lines))
	switch r.Intn(5) {
	case 0:
		lines = slices.Delete(lines, i, i+1)
	case 1:
		lines = slices.Insert(lines, i, lines[i])
	case 2:
		lines[i], lines[k] = lines[k], lines[i]
	case 3:
		lines = slices.Insert(lines, k, lines[i])
	case 4:
		lines[i] = pick(r, strings.SplitAfter(other, "\n")...)
	}
	return strings.Join(lines, "")
}

func bendByte(r *rand.Rand, s string) string {
	if s == "" {
		return "x"
	}
	at := r.Intn(len(s))
	one := string(pick(r, '\n', '\t', ' ', '(', ')', ',', '.', '-', '0', '1', '8', 't', 'x', 'a', '_', '{', '}', '=', '*', 0, 0x80, 'ä'))
	switch r.Intn(3) {
	case 0:
		return s[:at] + s[at+1:]
	case 1:
		return s[:at] + one + s[at:]
	}
	return s[:at] + one + s[at+1:]
}

func bend(r *rand.Rand, s, other string) string {
	switch r.Intn(8) {
	case 0, 1, 2:
		return bendNumber(r, s)
	case 3, 4:
		return bendLine(r, s, other)
	case 5:
		return bendByte(r, s)
	case 6:
		return strings.Replace(s, pick(r, "Array", "List", "Opaque", "Fixed", "String"), pick(r, "Array", "List", "Opaque", "Fixed", "String"), 1)
	}
	if r.Intn(4) == 0 {
		return s[:r.Intn(len(s)+1)]
	}
	return strings.Replace(s, pick(r, "var Name_a =", "const Name_a =", "nil", "t0"), pick(r, "var Name_B =", "const Name_B =", "nil", "t0"), 1)
}

// TestBentTexts is B2: texts that were sources, held against the model.
func TestBentTexts(t *testing.T) {
	r := rand.New(rand.NewSource(3))
	lines, wholes, right := 0, 0, 0
	other := everyKindText
	for range 900 {
		m := newMaker(r)
		c := m.code()
		first, e := stub.Print(c, makeNames(r, len(c.Entries)))
		if e != api.OK {
			t.Fatal(e)
		}
		for range 12 {
			s := first
			for range pick(r, 1, 1, 2, 3) {
				s = bend(r, s, other)
			}
			if wrong := readWrong(s); wrong != "" {
				t.Fatal(wrong)
			}
			switch _, _, e, n := stub.Read(s); {
			case e == api.OK:
				right++
			case n == 0:
				wholes++
			default:
				lines++
			}
		}
		other = first
	}
	if lines < 3000 || wholes < 600 || right < 1000 {
		t.Errorf("%d lines, %d wholes, %d right", lines, wholes, right)
	}
}

// small is a source with a line of nearly each form.
const small = "package stub\nconst Name_A = -10\nvar Name_b = t11\n" + firstEight +
	"func t8(x *Run) {\n\tx.Enum(3, -1)\n}\nfunc t9(x *Run) {\n\tx.Struct(2)\n\tt8(x)\n\tx.Int()\n}\nfunc t10(x *Run) {\n\tx.List(20, t9)\n}\nfunc t11(x *Run) {\n\tx.Union(t8, nil, 3, t10, -1, t0)\n}\n"

// TestEachCut is B2: cut at each byte, in front and behind.
func TestEachCut(t *testing.T) {
	if _, _, e, n := stub.Read(small); e != api.OK {
		t.Fatal(e, n)
	}
	for i := range len(small) {
		ended := strings.Count(small[:i], "\n")
		behind := strings.HasSuffix(small[:i], "\n}\n")
		if want := ended + 1; !behind {
			wantLine(t, "cut", small[:i], want)
		} else {
			wantLine(t, "cut behind a type", small[:i], 0)
		}
		if i > 0 {
			wantLine(t, "cut in front", small[i:], 1)
		}
		for _, s := range []string{small[:i], small[:i] + "\n", small[:i] + "\n" + small[i:]} {
			if wrong := readWrong(s); wrong != "" {
				t.Fatal(wrong)
			}
		}
	}
}

// TestEachByte is B2 and B3: each byte in turn left out, doubled, or another one.
func TestEachByte(t *testing.T) {
	right := 0
	for i := range len(small) {
		others := []string{"", small[i:i+1] + small[i:i+1]}
		for _, b := range "\n\t\r ()-,0189tTxX_a{=*\x00\x7f\xff" {
			others = append(others, string(rune(b)))
		}
		others = append(others, string([]byte{small[i] ^ 1}), string([]byte{small[i] ^ 0x20}), string([]byte{small[i] ^ 0x80}), string([]byte{small[i] + 1}))
		for _, other := range others {
			s := small[:i] + other + small[i+1:]
			if wrong := readWrong(s); wrong != "" {
				t.Fatal(wrong)
			}
			if _, _, e, _ := stub.Read(s); e == api.OK && s != small {
				right++
			}
		}
	}
	if right < 50 || right > 1000 {
		t.Errorf("%d are right", right)
	}
}

// TestEachLine is B2: each line in turn left out, doubled, or in each other place.
func TestEachLine(t *testing.T) {
	lines := linesOf(small)
	right := 0
	for i := range lines {
		without := slices.Delete(slices.Clone(lines), i, i+1)
		if wrong := readWrong(whole(without)); wrong != "" {
			t.Fatal(wrong)
		}
		for k := range lines {
			for _, all := range [][]string{slices.Insert(slices.Clone(lines), k, lines[i]), slices.Insert(slices.Clone(without), min(k, len(without)), lines[i])} {
				s := whole(all)
				if wrong := readWrong(s); wrong != "" {
					t.Fatal(wrong)
				}
				if _, _, e, _ := stub.Read(s); e == api.OK && s != small {
					right++
				}
			}
		}
	}
	// The two names may change places, and the two fields, each moved by one up or down.
	if right != 4 {
		t.Errorf("%d are right", right)
	}
}

// FuzzRead looks for texts that are read wrongly.
func FuzzRead(f *testing.F) {
	for _, s := range []string{"", exampleText, everyKindText, small, typed("x.Union(t7, nil, 1, t7, 0, t0)"), typed("x.Struct(1)", "t9(x)")} {
		f.Add(s)
	}
	f.Fuzz(func(t *testing.T, s string) {
		if wrong := readWrong(s); wrong != "" {
			t.Fatal(wrong)
		}
	})
}

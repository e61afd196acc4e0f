package portmap_test

import (
	"math"
	"strings"
	"testing"

	"callbox/api"
	"callbox/portmap"
	"callbox/schema"
	"callbox/value"
)

// edges are numbers at, and beside, the bounds of protocols, ports and words, and far off.
var edges = []int{0, 1, 2, 5, 6, 7, 16, 17, 18, 256 + 6, 256 + 17, 65534, 65535, 65536, 65537, math.MaxInt32, math.MaxInt32 + 1, 1<<32 - 2, 1<<32 - 1, 1 << 32, 1<<32 + 1, 1<<32 + 6, 1<<32 + 17, math.MaxInt, -1, -2, -6, -17, -65535, math.MinInt32, -1 << 32, math.MinInt, math.MinInt + 1}

// eachEdge is mappings with one number, or two, at an edge.
func eachEdge(do func(x api.Mapping)) {
	for _, a := range edges {
		for _, b := range edges {
			do(mapping(a, b, 17, 2000))
			do(mapping(7, 2, a, b))
			do(mapping(a, 2, 6, b))
			do(mapping(7, a, b, 1))
		}
	}
}

func isWord(n int) bool { return uint64(n)>>32 == 0 }

// TestMayBe is O2: what is set is what may be.
func TestMayBe(t *testing.T) {
	eachEdge(func(x api.Mapping) {
		m := portmap.New()
		may := isWord(x.Prog) && isWord(x.Vers) && (x.Prot == 6 || x.Prot == 17) && x.Port > 0 && x.Port < 65536
		wantSet(t, m, x, may)
		if !may {
			wantDump(t, m)
			wantPort(t, m, x.Prog, x.Vers, x.Prot, 0)
			wantUnset(t, m, x.Prog, x.Vers, false)
			return
		}
		wantSet(t, m, x, false)
		wantDump(t, m, x)
		wantPort(t, m, x.Prog, x.Vers, x.Prot, x.Port)
		wantUnset(t, m, x.Prog, x.Vers, true)
	})
}

// TestNobodysNumbers: what no mapping has is nowhere, and nothing goes by it.
func TestNobodysNumbers(t *testing.T) {
	m := portmap.New()
	x, y := mapping(70, 20, 17, 2000), mapping(0, 0, 6, 1)
	wantSet(t, m, x, true)
	wantSet(t, m, y, true)
	for _, a := range edges {
		wantUnset(t, m, 70, a, false)
		wantUnset(t, m, a, 20, false)
		for _, b := range edges {
			wantPort(t, m, a, b, 17, 0)
			wantPort(t, m, 70, a, b, 0)
			wantPort(t, m, a, 20, b, 0)
			if a != 0 || b != 0 {
				wantPort(t, m, a, b, 6, 0)
				wantUnset(t, m, a, b, false)
			}
		}
	}
	wantDump(t, m, x, y)
}

// filled is a map of so many mappings, set one behind the other, and these.
func filled(t *testing.T, n int) (*portmap.Map, []api.Mapping) {
	t.Helper()
	m := portmap.New()
	var l []api.Mapping
	for i := range n {
		l = append(l, mapping(100-i/2, 3, 6+11*(i%2), 65535-i))
		wantSet(t, m, l[i], true)
	}
	return m, l
}

// TestThirty is O2: there are 30 at the most; what goes makes room.
func TestThirty(t *testing.T) {
	m, l := filled(t, 30)
	wantDump(t, m, l...)
	for _, x := range mappings(mapping(1, 1, 6, 1), l[0], l[29]) {
		wantSet(t, m, x, false)
		wantHandle(t, m.Service(), 1, laid(x), api.Success, no)
	}
	wantDump(t, m, l...)
	for _, x := range l {
		wantPort(t, m, x.Prog, x.Vers, x.Prot, x.Port)
	}
	wantUnset(t, m, l[4].Prog, 3, true)
	wantSet(t, m, mapping(1, 1, 6, 1), true)
	wantSet(t, m, l[4], true)
	wantSet(t, m, l[5], false)
	wantSet(t, m, mapping(1, 1, 17, 1), false)
	want := append(append(append([]api.Mapping{}, l[:4]...), l[6:]...), mapping(1, 1, 6, 1), l[4])
	wantDump(t, m, want...)
}

// TestDumps is O3 and O4: the list of as many as may be has its bytes, and is told.
func TestDumps(t *testing.T) {
	for n := range 31 {
		m, l := filled(t, n)
		wantHandle(t, m.Service(), 4, "", api.Success, laidAll(l))
		wantListed(t, laidAll(l), l, api.OK)
		_, s := m.Service().Handle(4, "")
		if len(s) != 20*n+4 {
			t.Errorf("%d mappings have %d bytes", n, len(s))
		}
	}
}

// TestDeepLists is O4: 31 mappings are a value yet, 64 deep; 32 are none.
func TestDeepLists(t *testing.T) {
	x, _, _ := schema.Compile(portmap.Source())
	list, _ := schema.Find(x, "list")
	for n := range 60 {
		var l []api.Mapping
		for i := range n {
			l = append(l, mapping(i, 1<<32-1-i, i*i, 0))
		}
		s := laidAll(l)
		_, e := value.Decode(x, list, s)
		if (e == api.OK) != (n <= 31) {
			t.Errorf("Decode of %d mappings: %d", n, e)
		}
		if n <= 31 {
			wantListed(t, s, l, api.OK)
		} else {
			wantListed(t, s, nil, api.ErrPortmapForm)
		}
	}
}

// TestWrongLists is O4: what is not just a list's bytes.
func TestWrongLists(t *testing.T) {
	x := laid(mapping(7, 2, 17, 2000))
	whole := yes + x + yes + x + no
	for n := range len(whole) {
		wantListed(t, whole[:n], nil, api.ErrPortmapForm)
		wantListed(t, whole+whole[:n+1], nil, api.ErrPortmapForm)
	}
	for _, at := range []int{0, 20, 40} {
		for i := range 4 {
			for _, b := range []byte{2, 3, 128, 255} {
				bent := []byte(whole)
				bent[at+i] = b
				wantListed(t, string(bent), nil, api.ErrPortmapForm)
			}
		}
	}
	for _, s := range []string{yes, no + no, yes + x, x, yes + no, no + "x", strings.Repeat("\x00", 1000), strings.Repeat(yes+x, 50), strings.Repeat(yes+x, 49) + no, strings.Repeat(yes+x, 50) + no, strings.Repeat("\x00", 5000)} {
		wantListed(t, s, nil, api.ErrPortmapForm)
	}
}

// TestArgsEdges is O4: words, whether such a mapping may be or not.
func TestArgsEdges(t *testing.T) {
	eachEdge(func(x api.Mapping) {
		if isWord(x.Prog) && isWord(x.Vers) && isWord(x.Prot) && isWord(x.Port) {
			wantArgs(t, x, laid(x), api.OK)
		} else {
			wantArgs(t, x, "", api.ErrArg)
		}
	})
	for _, x := range mappings(mapping(-1, 0, 0, 0), mapping(0, -1, 0, 0), mapping(0, 0, -1, 0), mapping(0, 0, 0, -1), mapping(-1, -1, -1, -1), mapping(0, 0, 0, 1<<32)) {
		wantArgs(t, x, "", api.ErrArg)
	}
}

// TestHeardEdges is O4: four bytes, whatever they are.
func TestHeardEdges(t *testing.T) {
	for _, n := range edges {
		if isWord(n) {
			wantHeard(t, four(n), n, api.OK)
		}
	}
	for _, n := range []int{0, 1, 2, 3, 5, 6, 7, 8, 12, 16, 999, 1000, 1001, 1004, 5000} {
		wantHeard(t, strings.Repeat("\x00", n), 0, api.ErrPortmapForm)
		wantHeard(t, strings.Repeat("\xff", n), 0, api.ErrPortmapForm)
	}
}

// TestGarbage is O3: a mapping has 16 bytes, whatever they are, and procedure 4 takes none.
func TestGarbage(t *testing.T) {
	m, l := filled(t, 3)
	s := m.Service()
	for _, n := range []int{0, 1, 2, 3, 4, 5, 8, 11, 12, 13, 14, 15, 17, 18, 19, 20, 24, 32, 48, 996, 999, 1000, 1001, 1004, 5000} {
		args := strings.Repeat(laid(l[0]), n/16+1)[:n]
		for proc := 1; proc <= 3; proc++ {
			wantHandle(t, s, proc, args, api.GarbageArgs, "")
		}
		if n > 0 {
			wantHandle(t, s, 4, args, api.GarbageArgs, "")
		}
	}
	wantHandle(t, s, 4, laid(l[0]), api.GarbageArgs, "")
	wantDump(t, m, l...)
	for _, b := range []string{"\x00", "\x7f", "\x80", "\xff", "x"} {
		for proc := 1; proc <= 3; proc++ {
			wantHandle(t, s, proc, strings.Repeat(b, 16), api.Success, no)
		}
	}
	wantDump(t, m, l...)
}

// TestRefusedIsNoGarbage is O3: a number that Set refuses is false.
func TestRefusedIsNoGarbage(t *testing.T) {
	eachEdge(func(x api.Mapping) {
		if !isWord(x.Prog) || !isWord(x.Vers) || !isWord(x.Prot) || !isWord(x.Port) {
			return
		}
		m := portmap.New()
		s := m.Service()
		if may := (x.Prot == 6 || x.Prot == 17) && x.Port > 0 && x.Port < 65536; may {
			wantHandle(t, s, 1, laid(x), api.Success, yes)
			wantHandle(t, s, 3, laid(x), api.Success, four(x.Port))
			wantDump(t, m, x)
			return
		}
		wantHandle(t, s, 1, laid(x), api.Success, no)
		wantHandle(t, s, 3, laid(x), api.Success, no)
		wantHandle(t, s, 2, laid(x), api.Success, no)
		wantDump(t, m)
	})
}

// TestUnsetLooksAtTwo is O3: neither at the protocol nor at the port.
func TestUnsetLooksAtTwo(t *testing.T) {
	for _, prot := range edges {
		for _, port := range edges {
			if !isWord(prot) || !isWord(port) {
				continue
			}
			m := portmap.New()
			wantSet(t, m, mapping(7, 2, 17, 2000), true)
			wantSet(t, m, mapping(7, 3, 17, 2000), true)
			wantHandle(t, m.Service(), 2, laid(mapping(7, 2, prot, port)), api.Success, yes)
			wantHandle(t, m.Service(), 2, laid(mapping(7, 2, prot, port)), api.Success, no)
			wantDump(t, m, mapping(7, 3, 17, 2000))
		}
	}
}

// TestOtherProcedures is O3: SystemErr, ahead of what is wrong with the arguments, and nothing is changed.
func TestOtherProcedures(t *testing.T) {
	m, l := filled(t, 2)
	s := m.Service()
	for _, proc := range edges {
		if proc >= 1 && proc <= 4 {
			continue
		}
		for _, args := range []string{"", laid(l[0]), laid(mapping(1, 1, 6, 1)), "a", strings.Repeat("a", 2000)} {
			wantHandle(t, s, proc, args, api.SystemErr, "")
		}
	}
	wantDump(t, m, l...)
}

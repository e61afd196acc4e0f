package portmap_test

import (
	"slices"
	"testing"

	"callbox/api"
	"callbox/portmap"
	"callbox/schema"
	"callbox/service"
)

const no, yes = "\x00\x00\x00\x00", "\x00\x00\x00\x01"

// four is a number by four bytes.
func four(n int) string { return string([]byte{byte(n >> 24), byte(n >> 16), byte(n >> 8), byte(n)}) }

// laid is a mapping of four words as bytes, by hand.
func laid(x api.Mapping) string {
	return four(x.Prog) + four(x.Vers) + four(x.Prot) + four(x.Port)
}

// laidAll is a list of them as bytes, by hand.
func laidAll(l []api.Mapping) string {
	s := ""
	for _, x := range l {
		s += yes + laid(x)
	}
	return s + no
}

func mapping(prog, vers, prot, port int) api.Mapping {
	return api.Mapping{Prog: prog, Vers: vers, Prot: prot, Port: port}
}

func mappings(l ...api.Mapping) []api.Mapping { return l }

func wantSet(t *testing.T, m *portmap.Map, x api.Mapping, want bool) {
	t.Helper()
	if got := m.Set(x); got != want {
		t.Errorf("Set(%v) = %v", x, got)
	}
}

func wantUnset(t *testing.T, m *portmap.Map, prog, vers int, want bool) {
	t.Helper()
	if got := m.Unset(prog, vers); got != want {
		t.Errorf("Unset(%d, %d) = %v", prog, vers, got)
	}
}

func wantPort(t *testing.T, m *portmap.Map, prog, vers, prot, want int) {
	t.Helper()
	if got := m.Port(prog, vers, prot); got != want {
		t.Errorf("Port(%d, %d, %d) = %d, not %d", prog, vers, prot, got, want)
	}
}

func wantDump(t *testing.T, m *portmap.Map, want ...api.Mapping) {
	t.Helper()
	if got := m.Dump(); !slices.Equal(got, want) {
		t.Errorf("Dump() = %v, not %v", got, want)
	}
}

func wantHandle(t *testing.T, s service.Service, proc int, args string, accept int, results string) {
	t.Helper()
	if a, r := s.Handle(proc, args); a != accept || r != results {
		t.Errorf("Handle(%d, %q) = %d, %q, not %d, %q", proc, args, a, r, accept, results)
	}
}

func wantArgs(t *testing.T, x api.Mapping, want string, errno api.Errno) {
	t.Helper()
	if s, e := portmap.Args(x); s != want || e != errno {
		t.Errorf("Args(%v) = %q, %d, not %q, %d", x, s, e, want, errno)
	}
}

func wantHeard(t *testing.T, results string, want int, errno api.Errno) {
	t.Helper()
	if n, e := portmap.Heard(results); n != want || e != errno {
		t.Errorf("Heard(%q) = %d, %d, not %d, %d", results, n, e, want, errno)
	}
}

func wantListed(t *testing.T, results string, want []api.Mapping, errno api.Errno) {
	t.Helper()
	if l, e := portmap.Listed(results); !slices.Equal(l, want) || e != errno {
		t.Errorf("Listed(%q) = %v, %d, not %v, %d", results, l, e, want, errno)
	}
}

// TestSource is O1, byte by byte.
func TestSource(t *testing.T) {
	want := "const TCP = 6;\n" +
		"const UDP = 17;\n" +
		"struct mapping {\n" +
		"  unsigned int prog;\n" +
		"  unsigned int vers;\n" +
		"  unsigned int prot;\n" +
		"  unsigned int port;\n" +
		"};\n" +
		"struct entry {\n" +
		"  mapping item;\n" +
		"  entry *next;\n" +
		"};\n" +
		"typedef entry *list;\n" +
		"program PORTMAP {\n" +
		"  version TWO {\n" +
		"    void NULL(void) = 0;\n" +
		"    bool SET(mapping) = 1;\n" +
		"    bool UNSET(mapping) = 2;\n" +
		"    unsigned int GETPORT(mapping) = 3;\n" +
		"    list DUMP(void) = 4;\n" +
		"  } = 2;\n" +
		"} = 100000;\n"
	if got := portmap.Source(); got != want {
		t.Errorf("Source() = %q", got)
	}
}

// TestSchema is O5: the source's schema may be, of one program with one version with five procedures.
func TestSchema(t *testing.T) {
	x, e, at := schema.Compile(portmap.Source())
	if e != api.OK || at != 0 || !schema.Right(x) {
		t.Fatalf("Compile: %d, %d", e, at)
	}
	if len(x.Programs) != 1 || len(x.Programs[0].Versions) != 1 || len(x.Programs[0].Versions[0].Procs) != 5 {
		t.Fatalf("programs: %v", x.Programs)
	}
	place := func(name string) int {
		n, is := schema.Find(x, name)
		if !is {
			t.Errorf("no type %s", name)
		}
		return n
	}
	item, list := place("mapping"), place("list")
	for n, want := range []api.Proc{
		{Name: "NULL"},
		{Name: "SET", Args: []int{item}, Result: api.Bool},
		{Name: "UNSET", Args: []int{item}, Result: api.Bool},
		{Name: "GETPORT", Args: []int{item}, Result: api.Uint},
		{Name: "DUMP", Result: list},
	} {
		p, is := schema.Proc(x, 100000, 2, n)
		if !is || p.Name != want.Name || p.Number != n || p.Result != want.Result || !slices.Equal(p.Args, want.Args) {
			t.Errorf("procedure %d: %v", n, p)
		}
	}
	for _, c := range []api.Named{{Name: "TCP", Const: true, Value: api.Tcp}, {Name: "UDP", Const: true, Value: api.Udp}} {
		if !slices.Contains(x.Names, c) {
			t.Errorf("no constant %v", c)
		}
	}
}

// TestMap is the chapter's first example.
func TestMap(t *testing.T) {
	m := portmap.New()
	wantDump(t, m)
	wantSet(t, m, mapping(7, 2, 17, 2000), true)
	wantSet(t, m, mapping(7, 2, 17, 2000), false)
	wantSet(t, m, mapping(7, 2, 17, 2001), false)
	wantSet(t, m, mapping(7, 2, 6, 2000), true)
	wantPort(t, m, 7, 2, 17, 2000)
	wantPort(t, m, 7, 3, 17, 0)
	wantDump(t, m, mapping(7, 2, 17, 2000), mapping(7, 2, 6, 2000))
	wantUnset(t, m, 7, 2, true)
	wantUnset(t, m, 7, 2, false)
	wantDump(t, m)
	wantPort(t, m, 7, 2, 17, 0)
}

// TestAlike is O2: mappings are told apart by three numbers, and asked for by the same.
func TestAlike(t *testing.T) {
	m := portmap.New()
	all := mappings(mapping(7, 2, 17, 2000), mapping(8, 2, 17, 2000), mapping(7, 3, 17, 2000), mapping(7, 2, 6, 2000), mapping(2, 7, 17, 5))
	for _, x := range all {
		wantSet(t, m, x, true)
	}
	for _, x := range all {
		x.Port++
		wantSet(t, m, x, false)
	}
	wantDump(t, m, all...)
	wantPort(t, m, 7, 2, 17, 2000)
	wantPort(t, m, 2, 7, 17, 5)
	wantPort(t, m, 7, 2, 6, 2000)
	wantPort(t, m, 2, 7, 6, 0)
	wantPort(t, m, 8, 3, 17, 0)
}

// TestUnset is O2: those of a program and version go, of both protocols, the others stay in their order; and what comes again stands behind all.
func TestUnset(t *testing.T) {
	m := portmap.New()
	a, b, c, d, e := mapping(7, 2, 17, 1), mapping(8, 2, 17, 2), mapping(7, 2, 6, 3), mapping(7, 3, 6, 4), mapping(2, 7, 6, 5)
	for _, x := range mappings(a, b, c, d, e) {
		wantSet(t, m, x, true)
	}
	wantUnset(t, m, 8, 3, false)
	wantUnset(t, m, 7, 2, true)
	wantDump(t, m, b, d, e)
	wantPort(t, m, 7, 2, 6, 0)
	wantSet(t, m, c, true)
	wantDump(t, m, b, d, e, c)
	wantUnset(t, m, 7, 2, true)
	wantUnset(t, m, 7, 2, false)
	wantUnset(t, m, 2, 7, true)
	wantDump(t, m, b, d)
	wantSet(t, m, a, true)
	wantDump(t, m, b, d, a)
}

// TestService is the chapter's second and third example, as far as the Handle tells them.
func TestService(t *testing.T) {
	m := portmap.New()
	s := m.Service()
	if s.Prog != 100000 || s.Vers != 2 || !slices.Equal(s.Procs, []int{1, 2, 3, 4}) {
		t.Errorf("a service of %d, %d, %v", s.Prog, s.Vers, s.Procs)
	}
	x, zero := mapping(7, 2, 17, 2000), mapping(7, 2, 17, 0)
	wantHandle(t, s, 4, "", api.Success, no)
	wantHandle(t, s, 3, laid(zero), api.Success, no)
	wantSet(t, m, x, true)
	wantHandle(t, s, 3, laid(zero), api.Success, "\x00\x00\x07\xd0")
	wantHandle(t, s, 3, "", api.GarbageArgs, "")
	wantHandle(t, s, 1, laid(zero), api.Success, no)
	wantHandle(t, s, 4, "", api.Success, "\x00\x00\x00\x01\x00\x00\x00\x07\x00\x00\x00\x02\x00\x00\x00\x11\x00\x00\x07\xd0\x00\x00\x00\x00")
	wantDump(t, m, x)
}

// TestHandle is O3, and changes the map by the service alone.
func TestHandle(t *testing.T) {
	m := portmap.New()
	s := m.Service()
	x, y, z := mapping(7, 2, 17, 2000), mapping(7, 2, 6, 9), mapping(8, 1<<32-1, 6, 65535)
	wantHandle(t, s, 1, laid(x), api.Success, yes)
	wantHandle(t, s, 1, laid(x), api.Success, no)
	wantHandle(t, s, 1, laid(z), api.Success, yes)
	wantHandle(t, s, 1, laid(y), api.Success, yes)
	wantDump(t, m, x, z, y)
	wantHandle(t, s, 4, "", api.Success, laidAll(mappings(x, z, y)))
	wantHandle(t, s, 3, laid(mapping(8, 1<<32-1, 6, 4)), api.Success, "\x00\x00\xff\xff")
	wantHandle(t, s, 3, laid(mapping(8, 1<<32-1, 17, 4)), api.Success, no)
	wantHandle(t, s, 2, laid(mapping(7, 2, 1<<32-1, 1<<32-1)), api.Success, yes)
	wantHandle(t, s, 2, laid(mapping(7, 2, 17, 2000)), api.Success, no)
	wantDump(t, m, z)
	wantHandle(t, s, 4, yes, api.GarbageArgs, "")
	wantHandle(t, s, 0, "", api.SystemErr, "")
	wantHandle(t, s, 5, laid(x), api.SystemErr, "")
	wantDump(t, m, z)
}

// TestServicesOfOneMap is O3: each is over the map as it is when it is called.
func TestServicesOfOneMap(t *testing.T) {
	m := portmap.New()
	a := m.Service()
	x := mapping(7, 2, 17, 2000)
	wantSet(t, m, x, true)
	b := m.Service()
	wantHandle(t, a, 3, laid(x), api.Success, four(2000))
	wantHandle(t, b, 2, laid(x), api.Success, yes)
	wantHandle(t, a, 3, laid(x), api.Success, no)
	wantHandle(t, a, 1, laid(x), api.Success, yes)
	wantHandle(t, b, 4, "", api.Success, laidAll(mappings(x)))
	wantUnset(t, m, 7, 2, true)
	wantHandle(t, a, 4, "", api.Success, no)
	wantHandle(t, b, 4, "", api.Success, no)
}

// TestBehindARegistry: a service of a map can be offered and run.
func TestBehindARegistry(t *testing.T) {
	m := portmap.New()
	r := service.New()
	if e := r.Offer(m.Service()); e != api.OK {
		t.Fatalf("Offer: %d", e)
	}
	x := mapping(7, 2, 17, 2000)
	for _, c := range []struct {
		proc    int
		args    string
		accept  int
		results string
	}{
		{0, "", api.Success, ""},
		{0, no, api.GarbageArgs, ""},
		{1, laid(x), api.Success, yes},
		{3, laid(x), api.Success, four(2000)},
		{4, "", api.Success, laidAll(mappings(x))},
		{4, no, api.GarbageArgs, ""},
		{5, "", api.ProcUnavail, ""},
		{2, laid(x), api.Success, yes},
		{2, "", api.GarbageArgs, ""},
	} {
		if a, s := r.Run(100000, 2, c.proc, c.args); a != c.accept || s != c.results {
			t.Errorf("Run(%d, %q) = %d, %q", c.proc, c.args, a, s)
		}
	}
	if a, low, high := r.Find(100000, 3, 1); a != api.ProgMismatch || low != 2 || high != 2 {
		t.Errorf("Find of the version 3: %d, %d, %d", a, low, high)
	}
	wantDump(t, m)
}

// TestTexts is O4, by the chapter's examples, and of mappings that may not be.
func TestTexts(t *testing.T) {
	wantArgs(t, mapping(7, 2, 17, 0), "\x00\x00\x00\x07\x00\x00\x00\x02\x00\x00\x00\x11\x00\x00\x00\x00", api.OK)
	wantArgs(t, mapping(1<<32-1, 0x01020304, 0xfffefdfc, 65536), "\xff\xff\xff\xff\x01\x02\x03\x04\xff\xfe\xfd\xfc\x00\x01\x00\x00", api.OK)
	wantHeard(t, "\x00\x00\x07\xd0", 2000, api.OK)
	x, odd := mapping(7, 2, 17, 2000), mapping(1<<32-1, 0, 1<<31, 1<<32-1)
	wantListed(t, no, nil, api.OK)
	wantListed(t, laidAll(mappings(x)), mappings(x), api.OK)
	wantListed(t, laidAll(mappings(odd, x, x, odd)), mappings(odd, x, x, odd), api.OK)
	wantListed(t, "", nil, api.ErrPortmapForm)
}

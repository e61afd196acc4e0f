package codec_test

import (
	"math"
	"math/rand"
	"reflect"
	"slices"
	"sync"
	"testing"
	"unsafe"

	"callbox/api"
	"callbox/codec"
)

// span is where a list lies, its spare room too.
type span struct{ from, to uintptr }

func spanOf[T any](list []T, out []span) []span {
	if cap(list) == 0 {
		return out
	}
	from := uintptr(unsafe.Pointer(unsafe.SliceData(list)))
	return append(out, span{from, from + uintptr(cap(list))*unsafe.Sizeof(list[:1][0])})
}

// codeSpans are all lists of a code, schemaSpans all of a schema's types.
func codeSpans(c api.Code, out []span) []span {
	out = spanOf(c.Ops, spanOf(c.Entries, out))
	for _, op := range c.Ops {
		out = spanOf(op.T, out)
	}
	return out
}

func schemaSpans(x api.Schema, out []span) []span {
	out = spanOf(x.Types, spanOf(x.Names, out))
	for _, t := range x.Types {
		out = spanOf(t.Members, spanOf(t.Fields, spanOf(t.Arms, out)))
		for _, a := range t.Arms {
			out = spanOf(a.Cases, out)
		}
	}
	return out
}

func shared(all []span) bool {
	slices.SortFunc(all, func(a, b span) int { return int(a.from) - int(b.from) })
	for i := 1; i < len(all); i++ {
		if all[i-1].to > all[i].from {
			return true
		}
	}
	return false
}

// copied is a schema of new memory, without programs.
func copied(x api.Schema) api.Schema {
	y := api.Schema{Names: slices.Clone(x.Names)}
	for _, t := range x.Types {
		t.Members, t.Fields, t.Arms = slices.Clone(t.Members), slices.Clone(t.Fields), slices.Clone(t.Arms)
		for i := range t.Arms {
			t.Arms[i].Cases = slices.Clone(t.Arms[i].Cases)
		}
		y.Types = append(y.Types, t)
	}
	return y
}

// TestNewMemory: no two lists of what comes out share any, in one answer or in two, nor with what was handed in.
func TestNewMemory(t *testing.T) {
	r := rand.New(rand.NewSource(10))
	lists := 0
	for range 3000 {
		x := copied(newMaker(r).x)
		first, second := lowered(t, x), lowered(t, x)
		all := codeSpans(first, codeSpans(second, schemaSpans(x, nil)))
		lists += len(all)
		if shared(all) {
			t.Fatalf("%s: lists share memory", short(x))
		}
	}
	if lists < 25000 {
		t.Errorf("%d lists", lists)
	}
}

// TestNotKept: what was handed in may be changed behind the call, and what came out may be.
func TestNotKept(t *testing.T) {
	x := compiled(t, everyKind)
	c := lowered(t, x)
	want := bare(c)
	for i := range x.Types {
		y := &x.Types[i]
		for k := range y.Members {
			y.Members[k].Number = 99
		}
		for k := range y.Arms {
			for n := range y.Arms[k].Cases {
				y.Arms[k].Cases[n] = 99
			}
			y.Arms[k].Type = 99
		}
		y.Size, y.Of = 99, 99
	}
	wantCode(t, "the schema was changed", c, want)
	for i := range c.Ops {
		for k := range c.Ops[i].T {
			c.Ops[i].T[k] = 77
		}
		c.Ops[i].A = 77
	}
	clear(c.Entries)
	wantCode(t, "the code was changed", lowerSource(t, everyKind), want)
}

// roomy is a list with spare room that has something in it.
func roomy[T any](list []T, mark T) []T {
	out := make([]T, 0, len(list)+2)
	out = append(out, list...)
	_ = append(out, mark, mark)
	return out
}

func isRoomy[T any](list []T, mark T) bool {
	all := list[:len(list)+2]
	return reflect.DeepEqual(all[len(list):], []T{mark, mark})
}

var (
	markOp   = api.Op{Code: 77, A: 78}
	markType = api.Type{Kind: 77}
	markName = api.Named{Name: "room"}
)

func roomyCode(c api.Code) api.Code {
	c.Ops, c.Entries = roomy(c.Ops, markOp), roomy(c.Entries, 77)
	for i := range c.Ops {
		c.Ops[i].T = roomy(c.Ops[i].T, 77)
	}
	return c
}

func isRoomyCode(c api.Code) bool {
	right := isRoomy(c.Ops, markOp) && isRoomy(c.Entries, 77)
	for _, op := range c.Ops {
		right = right && isRoomy(op.T, 77)
	}
	return right
}

func roomySchema(x api.Schema) api.Schema {
	x = copied(x)
	x.Types, x.Names = roomy(x.Types, markType), roomy(x.Names, markName)
	for i := range x.Types {
		y := &x.Types[i]
		y.Members, y.Fields, y.Arms = roomy(y.Members, api.Member{Number: 77}), roomy(y.Fields, api.Field{Type: 77}), roomy(y.Arms, api.Arm{Type: 77})
		for k := range y.Arms {
			y.Arms[k].Cases = roomy(y.Arms[k].Cases, 77)
		}
	}
	return x
}

func isRoomySchema(x api.Schema) bool {
	right := isRoomy(x.Types, markType) && isRoomy(x.Names, markName)
	for _, y := range x.Types {
		right = right && isRoomy(y.Members, api.Member{Number: 77}) && isRoomy(y.Fields, api.Field{Type: 77}) && isRoomy(y.Arms, api.Arm{Type: 77})
		for _, a := range y.Arms {
			right = right && isRoomy(a.Cases, 77)
		}
	}
	return right
}

// TestHandedIn: codes and schemas that are handed in, and their spare room, are not written into, and spare room is nothing to the answer.
func TestHandedIn(t *testing.T) {
	r := rand.New(rand.NewSource(11))
	for range 3000 {
		m := newMaker(r)
		c := m.code()
		if r.Intn(2) == 0 {
			m.spoil(&c)
		}
		if r.Intn(3) == 0 {
			m.spoilSchema()
		}
		handed, other, x := roomyCode(c), roomyCode(m.code()), roomySchema(m.x)
		right, same := codec.Right(handed), codec.Same(handed, other)
		got, e := codec.Lower(x)
		if right != codec.Right(c) || same != reflect.DeepEqual(bare(c), bare(other)) {
			t.Fatalf("%s: another answer", short(c))
		}
		if want, f := codec.Lower(m.x); e != f || !codec.Same(got, want) {
			t.Fatalf("%s: another answer", short(m.x))
		}
		if !isRoomyCode(handed) || !isRoomyCode(other) || !reflect.DeepEqual(bare(handed), bare(c)) || !reflect.DeepEqual(bare(other), bare(m.code())) {
			t.Fatalf("%s was written into", short(c))
		}
		if !isRoomySchema(x) || !reflect.DeepEqual(copied(x), copied(roomySchema(m.x))) {
			t.Fatalf("%s was written into", short(m.x))
		}
	}
}

// TestOneList: one list may stand in several places of a code.
func TestOneList(t *testing.T) {
	numbers := []int{2, 16, 16, 2}
	c := made(enum(2, 16), union(1, -1, 0, 0), union(8, -1, 0, 0))
	c.Ops[18].T, c.Ops[20].T = numbers, numbers
	if !codec.Right(c) {
		t.Error("one T")
	}
	both := api.Code{Ops: make([]api.Op, 9), Entries: numbers}
	if !codec.Same(both, both) || codec.Right(both) {
		t.Error("one code")
	}
}

// TestGreatOnes: codes far beyond all bounds are refused, and without much ado.
func TestGreatOnes(t *testing.T) {
	many := upTo(1 << 18)
	ends := make([]api.Op, 1<<18)
	ints := slices.Repeat([]api.Op{{Code: api.OpInt}}, 1<<18)
	for what, c := range map[string]api.Code{
		"numbers of an enum":    made(enum(many...)),
		"turns":                 made(union(1, -1, many...)),
		"numbers of a fixed":    changed(made(fixed(1)), func(c *api.Code) { c.Ops[16].T = many }),
		"ends":                  changed(made(), func(c *api.Code) { c.Ops = append(c.Ops, ends...) }),
		"fields":                made(append(ops{{Code: api.OpStruct, A: len(ints)}}, ints...)),
		"fields, fewer said":    made(append(ops{{Code: api.OpStruct, A: 64}}, ints...)),
		"ints":                  changed(made(), func(c *api.Code) { c.Ops = append(c.Ops, ints...) }),
		"entries":               {Ops: made().Ops, Entries: many},
		"entries of ends":       {Ops: ends, Entries: many},
		"four hundred of ends":  {Ops: ends, Entries: many[:400]},
		"the first eight again": {Ops: slices.Repeat(made().Ops, 1<<14), Entries: made().Entries},
	} {
		if codec.Right(c) || !codec.Same(c, c) {
			t.Errorf("%s: Right, or not Same", what)
		}
	}
}

// TestGreatestOnes: as much as may be.
func TestGreatestOnes(t *testing.T) {
	var enums, unions, structs []ops
	for range 392 {
		enums = append(enums, enum(upTo(64)...))
		unions = append(unions, union(1, 1, rows(slices.Repeat([]int{64}, 64)...)...))
		structs = append(structs, structure(slices.Repeat([]int{3}, 64)...))
	}
	for i, all := range [][]ops{enums, unions, structs} {
		c := made(all...)
		if !codec.Right(c) || !codec.Same(c, bare(c)) {
			t.Errorf("%d: not right", i)
		}
		last := &c.Ops[c.Entries[399]]
		last.A, last.T = last.A+1, append(last.T, 5000, 0)
		if codec.Right(c) {
			t.Errorf("%d: right", i)
		}
	}
}

// TestNumbersFarBeyond: no number makes a call panic, wherever it stands.
func TestNumbersFarBeyond(t *testing.T) {
	for _, n := range []int{math.MinInt, math.MinInt + 1, math.MinInt + 2, -1 << 40, 1 << 40, math.MaxInt - 2, math.MaxInt - 1, math.MaxInt} {
		for i := range all().Ops {
			for _, do := range []func(op *api.Op){
				func(op *api.Op) { op.Code = n },
				func(op *api.Op) { op.A = n },
				func(op *api.Op) { op.B = n },
				func(op *api.Op) { op.T = append(op.T, n) },
				func(op *api.Op) { op.T = append(op.T, n, n) },
				func(op *api.Op) { op.T = []int{n, 2} },
				func(op *api.Op) { op.T = []int{2, n} },
				func(op *api.Op) { *op = api.Op{Code: n, A: n, B: n, T: []int{n, n, n}} },
			} {
				c := all()
				do(&c.Ops[i])
				if codec.Right(c) {
					t.Errorf("%d at %d: right: %s", n, i, short(c))
				}
			}
		}
		c := all()
		for i := range c.Entries {
			c.Entries[i] = n
		}
		if codec.Right(c) {
			t.Errorf("entries of %d", n)
		}
	}
}

// TestAtOnce: calls know nothing of one another, whoever calls.
func TestAtOnce(t *testing.T) {
	x := compiled(t, everyKind)
	want := bare(lowered(t, x))
	bad := changed(want, func(c *api.Code) { c.Ops[24].B = 24 })
	var wait sync.WaitGroup
	for range 8 {
		wait.Go(func() {
			for range 100 {
				c, e := codec.Lower(x)
				if e != api.OK || !codec.Same(c, want) || !codec.Right(want) || codec.Right(bad) || codec.Same(want, bad) {
					t.Error("another answer")
				}
				if _, e := codec.Lower(api.Schema{}); e != api.ErrCodecSchema {
					t.Error("another error")
				}
			}
		})
	}
	wait.Wait()
}

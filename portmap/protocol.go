package portmap

import (
	"callbox/api"
	"callbox/codec"
	"callbox/engine"
	"callbox/schema"
)

const source = `const TCP = 6;
const UDP = 17;
struct mapping {
  unsigned int prog;
  unsigned int vers;
  unsigned int prot;
  unsigned int port;
};
struct entry {
  mapping item;
  entry *next;
};
typedef entry *list;
program PORTMAP {
  version TWO {
    void NULL(void) = 0;
    bool SET(mapping) = 1;
    bool UNSET(mapping) = 2;
    unsigned int GETPORT(mapping) = 3;
    list DUMP(void) = 4;
  } = 2;
} = 100000;
`

// The source's numbers.
const (
	program   = 100000
	version   = 2
	procSet   = 1
	procUnset = 2
	procPort  = 3
	procDump  = 4
)

// fuel is enough for all that is said in this language: nothing there has more values within it than bytes, and a value costs five at the most.
const fuel = 5 * api.MaxBytes

// protocol is what the source says, and its code.
type protocol struct {
	schema api.Schema
	code   api.Code
}

func newProtocol() protocol {
	// Nothing is wrong here: the source may be, so its schema may, too.
	x, _, _ := schema.Compile(source)
	code, _ := codec.Lower(x)
	return protocol{x, code}
}

func (p protocol) proc(number int) api.Proc {
	found, _ := schema.Proc(p.schema, program, version, number)
	return found
}

// arguments are those that bytes say to a procedure, and whether they say any.
func (p protocol) arguments(proc int, args string) ([]api.Value, bool) {
	l, _, e := engine.Unpack(p.code, p.proc(proc).Args, args, fuel)
	return l, e == api.OK
}

// results are those of a procedure, as bytes.
func (p protocol) results(proc int, v api.Value) string {
	// Nothing is wrong here: as many mappings as there may be have 604 bytes, and are 62 deep.
	s, _, _ := engine.Encode(p.code, p.proc(proc).Result, v, fuel)
	return s
}

// result is what bytes say that a procedure has answered, and whether they say anything.
func (p protocol) result(proc int, results string) (api.Value, bool) {
	v, _, e := engine.Decode(p.code, p.proc(proc).Result, results, fuel)
	return v, e == api.OK
}

// Args are the arguments of a call that asks for a mapping, or names one: all of these take the same.
func Args(x api.Mapping) (string, api.Errno) {
	p := newProtocol()
	s, _, e := engine.Pack(p.code, p.proc(procPort).Args, []api.Value{mappingValue(x)}, fuel)
	if e != api.OK {
		return "", api.ErrArg
	}
	return s, api.OK
}

// Heard is the number that was answered to such a call: any four bytes are one, so those of a bool are, too.
func Heard(results string) (int, api.Errno) {
	v, is := newProtocol().result(procPort, results)
	if !is {
		return 0, api.ErrPortmapForm
	}
	return v.Int, api.OK
}

// Listed are the mappings that were answered to a call that asks for all.
func Listed(results string) ([]api.Mapping, api.Errno) {
	v, is := newProtocol().result(procDump, results)
	if !is {
		return nil, api.ErrPortmapForm
	}
	return mappingsOf(v), api.OK
}

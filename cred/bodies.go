package cred

import (
	"callbox/api"
	"callbox/xdr"
)

// somebody is who somebody says to be. What may not be of it is just what layer 2 refuses, in writing and in reading, so nothing is asked of it beside that.
type somebody struct {
	says api.Sys
}

func (s *somebody) layWho(w *xdr.Writer) {
	w.Uint(s.says.Stamp)
	w.Opaque(api.MaxMachine, s.says.Machine)
	w.Uint(s.says.User)
	w.Uint(s.says.Group)
	w.Count(api.MaxGroups, len(s.says.Groups))
	// Beyond the bound the count is wrong already: however long the list is, it need not be gone through.
	for _, group := range s.says.Groups[:min(len(s.says.Groups), api.MaxGroups)] {
		w.Uint(group)
	}
}

func (s *somebody) readWho(r *xdr.Reader) {
	s.says.Stamp = r.Uint()
	s.says.Machine = r.Opaque(api.MaxMachine)
	s.says.User = r.Uint()
	s.says.Group = r.Uint()
	for range r.Count(api.MaxGroups) {
		s.says.Groups = append(s.says.Groups, r.Uint())
	}
}

// marked is a mark: somebody, and which of their calls it is. The methods of somebody are its own too.
type marked struct {
	somebody
	instance, sequence, water int
}

func markOf(m api.Mark) *marked {
	return &marked{somebody{m.Sys}, m.Instance, m.Sequence, m.Water}
}

func (m *marked) told() api.Mark {
	return api.Mark{Instance: m.instance, Sequence: m.sequence, Water: m.water, Sys: m.says}
}

func (m *marked) lay(w *xdr.Writer) {
	if !m.numbersMayBe() {
		w.Fail(api.ErrCredField)
	}
	w.Hyper(m.instance)
	w.Hyper(m.sequence)
	w.Hyper(m.water)
	m.layWho(w)
}

func (m *marked) read(r *xdr.Reader) {
	m.instance = r.Hyper()
	m.sequence = r.Hyper()
	m.water = r.Hyper()
	if !m.numbersMayBe() {
		r.Fail(api.ErrCredForm)
	}
	m.readWho(r)
}

// numbersMayBe asks what layer 2 does not: a hyper may be any number.
func (m *marked) numbersMayBe() bool {
	return isFrom1To(api.MaxInstance, m.instance) && isFrom1To(api.MaxWord, m.sequence) && isFrom1To(api.MaxWord, m.water)
}

func isFrom1To(most, n int) bool { return 1 <= n && n <= most }

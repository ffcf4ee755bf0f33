package lookup

import (
	"slices"
	"strconv"
	"strings"

	"beacon/api"
	"beacon/names"
	"beacon/records"
)

// search is one lookup under way: what it has found for a type so far.
type search struct {
	table  *Table
	kind   int
	found  api.Answer
	cancel *cancel
}

// Answer tells what the zone answers to a name, as names.FromLabels gives it,
// and a type. No name is under the origin of no table.
func (t *Table) Answer(name string, kind int) api.Answer {
	if t == nil || !names.Under(name, t.origin) {
		return api.Answer{Rcode: api.Refused}
	}
	s := &search{table: t, kind: kind, cancel: newCancel()}
	s.found.Authoritative = len(t.cutOver(name)) == 0
	if !s.follow(name) {
		return api.Answer{Rcode: api.ServFail, Authoritative: true}
	}
	s.found.Additional = t.additional(s.found)
	return s.found
}

// follow goes from a name along its CNAMEs, and tells whether it came to the
// end of them: a lookup that goes round ends by its cancel alone.
func (s *search) follow(name string) bool {
	for more := true; more; {
		if s.cancel.asked() {
			return false
		}
		name, more = s.step(name)
	}
	return true
}

// step adds what a name under the origin brings, and gives the one to go on
// with, if there is one.
func (s *search) step(name string) (string, bool) {
	if cut := s.table.cutOver(name); len(cut) > 0 {
		s.found.Authority = slices.Clone(cut)
		return "", false
	}
	list, ok := s.table.match(name)
	if !ok {
		s.found.Rcode = api.NXDomain
		s.found.Authority = s.table.denial()
		return "", false
	}
	if s.kind != api.CNAME && s.kind != api.Any && isAlias(list) {
		return s.link(list[0])
	}
	if !s.take(list) {
		s.found.Authority = s.table.denial()
	}
	return "", false
}

// link adds a CNAME and gives its target, if the zone can be asked for that.
// (What a search has answered while it goes on are CNAMEs alone.)
func (s *search) link(cname api.Record) (string, bool) {
	if len(s.found.Answer) == api.MaxChain {
		s.cancel.call()
		return cname.Data, true
	}
	s.found.Answer = append(s.found.Answer, cname)
	return cname.Data, names.Under(cname.Data, s.table.origin)
}

// isAlias tells whether a name's records are a CNAME: that stands alone.
func isAlias(list []api.Record) bool {
	return len(list) == 1 && list[0].Type == api.CNAME
}

// take adds the records of the asked type, and tells whether there were any.
func (s *search) take(list []api.Record) bool {
	taken := false
	for set := range records.Sets(list) {
		if s.kind == api.Any || s.kind == set[0].Type {
			s.found.Answer = append(s.found.Answer, set...)
			taken = true
		}
	}
	return taken
}

// cutOver gives the NS of the cut that a name is under, the one nearest to the
// origin.
func (t *Table) cutOver(name string) []api.Record {
	var cut []api.Record
	for end := range names.Ends(name) {
		if end == t.origin {
			break
		}
		if set := t.set(end, api.NS); len(set) > 0 {
			cut = set
		}
	}
	return cut
}

// match gives the records that stand for a name, its own or a star's, and
// tells whether there is anything (a name may be there without records).
func (t *Table) match(name string) ([]api.Record, bool) {
	if t.isThere(name) {
		return t.of(name), true
	}
	for ancestor := range names.Ancestors(name) {
		if t.isThere(ancestor) {
			list := owned(name, t.of(names.Star(ancestor)))
			return list, len(list) > 0
		}
	}
	return nil, false
}

// owned gives records as those of another owner.
func owned(owner string, list []api.Record) []api.Record {
	list = slices.Clone(list)
	for i := range list {
		list[i].Owner = owner
	}
	return list
}

// denial gives the SOA as it stands in the authority.
func (t *Table) denial() []api.Record {
	soa := slices.Clone(t.set(t.origin, api.SOA))
	for i, r := range soa {
		minimum, _ := strconv.Atoi(lastWord(r.Data))
		soa[i].TTL = min(r.TTL, minimum)
	}
	return soa
}

// additional gives the addresses of what the NS and MX of an answer name.
func (t *Table) additional(found api.Answer) []api.Record {
	var list []api.Record
	var targets []string
	for _, r := range slices.Concat(found.Answer, found.Authority) {
		target := lastWord(r.Data)
		if r.Type != api.NS && r.Type != api.MX || slices.Contains(targets, target) {
			continue
		}
		targets = append(targets, target)
		for _, address := range t.set(target, api.A) {
			if !slices.Contains(found.Answer, address) {
				list = append(list, address)
			}
		}
	}
	return list
}

func lastWord(data string) string {
	return data[strings.LastIndexByte(data, ' ')+1:]
}

package zone

import (
	"slices"
	"strings"

	"beacon/api"
	"beacon/names"
	"beacon/records"
)

// search is one lookup under way: what it has found for a type so far.
type search struct {
	zone   *Zone
	kind   int
	found  api.Answer
	cancel *cancel
}

// answer tells what the zone answers to any name and type.
func (z *Zone) answer(name string, kind int) api.Answer {
	if !names.Under(name, z.origin) {
		return api.Answer{Rcode: api.Refused}
	}
	s := &search{zone: z, kind: kind, cancel: newCancel()}
	s.found.Authoritative = len(z.cutOver(name)) == 0
	if !s.follow(name) {
		return api.Answer{Rcode: api.ServFail, Authoritative: true}
	}
	s.found.Additional = z.additional(s.found)
	return s.found
}

// follow goes from a name along its CNAMEs, and tells whether it came to the
// end of them: a lookup that goes round ends by its cancel alone.
func (s *search) follow(name string) bool {
	for more := true; more; {
		if s.cancel.asked() {
			return false
		}
		name, more = s.step(name)
	}
	return true
}

// step adds what a name under the origin brings, and gives the one to go on
// with, if there is one.
func (s *search) step(name string) (string, bool) {
	if cut := s.zone.cutOver(name); len(cut) > 0 {
		s.found.Authority = slices.Clone(cut)
		return "", false
	}
	list, ok := s.zone.match(name)
	if !ok {
		s.found.Rcode = api.NXDomain
		s.found.Authority = s.zone.denial()
		return "", false
	}
	if s.kind != api.CNAME && s.kind != api.Any && has(list, api.CNAME) {
		return s.link(list[0])
	}
	if !s.take(list) {
		s.found.Authority = s.zone.denial()
	}
	return "", false
}

// link adds a CNAME and gives its target, if the zone can be asked for that.
// (What a search has answered while it goes on are CNAMEs alone.)
func (s *search) link(cname api.Record) (string, bool) {
	if len(s.found.Answer) == api.MaxChain {
		s.cancel.call()
		return cname.Data, true
	}
	s.found.Answer = append(s.found.Answer, cname)
	return cname.Data, names.Under(cname.Data, s.zone.origin)
}

// take adds the records of the asked type, and tells whether there were any.
func (s *search) take(list []api.Record) bool {
	taken := false
	for set := range records.Sets(list) {
		if s.kind == api.Any || s.kind == set[0].Type {
			s.found.Answer = append(s.found.Answer, set...)
			taken = true
		}
	}
	return taken
}

// cutOver gives the NS of the cut that a name is under, the one nearest to the
// origin.
func (z *Zone) cutOver(name string) []api.Record {
	var cut []api.Record
	for end := range names.Ends(name) {
		if end == z.origin {
			break
		}
		if set := z.set(end, api.NS); len(set) > 0 {
			cut = set
		}
	}
	return cut
}

// match gives the records that stand for a name, its own or a star's, and
// tells whether there is anything (a name may be there without records).
func (z *Zone) match(name string) ([]api.Record, bool) {
	if z.isThere(name) {
		return z.of(name), true
	}
	for ancestor := range names.Ancestors(name) {
		if z.isThere(ancestor) {
			list := owned(name, z.of(names.Star(ancestor)))
			return list, len(list) > 0
		}
	}
	return nil, false
}

// owned gives records as those of another owner.
func owned(owner string, list []api.Record) []api.Record {
	list = slices.Clone(list)
	for i := range list {
		list[i].Owner = owner
	}
	return list
}

// denial gives the SOA as it stands in the authority.
func (z *Zone) denial() []api.Record {
	soa := slices.Clone(z.set(z.origin, api.SOA))
	for i, r := range soa {
		minimum, _ := readNumber(lastWord(r.Data), api.MaxTTL)
		soa[i].TTL = min(r.TTL, int(minimum))
	}
	return soa
}

// additional gives the addresses of what the NS and MX of an answer name.
func (z *Zone) additional(found api.Answer) []api.Record {
	var list []api.Record
	var targets []string
	for _, r := range slices.Concat(found.Answer, found.Authority) {
		target := lastWord(r.Data)
		if r.Type != api.NS && r.Type != api.MX || slices.Contains(targets, target) {
			continue
		}
		targets = append(targets, target)
		for _, address := range z.set(target, api.A) {
			if !slices.Contains(found.Answer, address) {
				list = append(list, address)
			}
		}
	}
	return list
}

func lastWord(data string) string {
	return data[strings.LastIndexByte(data, ' ')+1:]
}

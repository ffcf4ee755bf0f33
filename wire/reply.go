package wire

import (
	"strconv"
	"strings"

	"beacon/api"
	"beacon/names"
	"beacon/records"
)

// What a zone does not tell of its SOA.
const (
	refresh = 3600
	retry   = 600
	expire  = 86400
)

// reply gives the message that tells an answer to a query.
func (q query) reply(found api.Answer) string {
	h := q.turned(found.Rcode)
	if found.Authoritative {
		h.bits |= authoritativeBit
	}
	m := newMessage()
	m.putQuestion(q)
	last := q.last(found.Rcode)
	written := m.fill(q.limit()-len(last), found.Answer, found.Authority, found.Additional)
	if written[0] < len(found.Answer) || written[1] < len(found.Authority) {
		h.bits |= truncatedBit
	}
	h.counts = [4]int{1, written[0], written[1], written[2]}
	if q.hasOPT {
		h.counts[3]++
	}
	m.put(raw(last))
	return m.under(h)
}

// putQuestion writes the question as it came. An end of its name is as far
// from the start there as in the name's text, as labels have one byte ahead of
// them here, and one point behind them there.
func (m *message) putQuestion(q query) {
	for end := range names.Ends(q.name) {
		m.learn(end, len(m.bytes)+len(q.name)-len(end))
	}
	m.put(raw(q.question))
}

// last gives what stands at the end of a reply: an OPT, if one has come.
func (q query) last(rcode int) string {
	if !q.hasOPT {
		return ""
	}
	return written(compressed(""), short(typeOPT), short(api.MaxUDP), octet(rcode>>4), raw("\x00\x00\x00"), sized{})
}

// fill writes RRsets, list by list, as long as the message stays within a
// size, and tells how many records of each list it has written.
func (m *message) fill(size int, lists ...[]api.Record) []int {
	written := make([]int, len(lists))
	for i, list := range lists {
		for set := range records.Sets(list) {
			if !m.fit(size, set...) {
				return written
			}
			written[i] += len(set)
		}
	}
	return written
}

// fit writes records, all or none, and tells whether they fit.
func (m *message) fit(size int, set ...api.Record) bool {
	before := *m
	for _, r := range set {
		m.put(compressed(r.Owner), short(r.Type), short(classIN), long(r.TTL), dataOf(r))
	}
	if len(m.bytes) > size {
		*m = before
		return false
	}
	return true
}

// dataOf gives what stands behind a record's type, as fields.
func dataOf(r api.Record) sized {
	words := strings.Split(r.Data, " ")
	switch r.Type {
	case api.SOA:
		return sized{
			compressed(words[0]), compressed(words[1]), long(number(words[2])),
			long(refresh), long(retry), long(expire), long(number(words[3])),
		}
	case api.A:
		return addressOf(r.Data)
	case api.TXT:
		return sized{octet(len(r.Data)), raw(r.Data)}
	case api.MX:
		return sized{short(number(words[0])), compressed(words[1])}
	}
	return sized{compressed(r.Data)}
}

func addressOf(data string) sized {
	var fields sized
	for _, part := range strings.Split(data, ".") {
		fields = append(fields, octet(number(part)))
	}
	return fields
}

// number reads what is a number for sure: the zone is a right one.
func number(word string) uint64 {
	n, _ := strconv.ParseUint(word, 10, 64)
	return n
}

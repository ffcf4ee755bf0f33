package wire

import (
	"beacon/api"
	"beacon/lookup"
	"beacon/names"
)

// What queries are made of (RFC 1035, RFC 6891).
const (
	maxWireLabel = 63
	maxWireName  = 255
	classIN      = 1
	typeOPT      = 41
	// The types between these ask for other things than records.
	firstMeta = 249
	lastMeta  = 254
)

// query is a message that asks one question.
type query struct {
	header
	// question is as it came, name what is asked for in it.
	question    string
	name        string
	kind, class int
	// What an OPT told, if there was one.
	hasOPT        bool
	size, version int
}

// readQuery reads a query behind its header, and tells whether it is one.
func readQuery(h header, message string) (query, bool) {
	q := query{header: h, hasOPT: h.counts[3] == 1}
	if h.counts != [4]int{1, 0, 0, 0} && h.counts != [4]int{1, 0, 0, 1} {
		return query{}, false
	}
	r := &reader{rest: message[headerSize:]}
	q.readQuestion(r)
	if q.hasOPT {
		q.readOPT(r)
	}
	return q, !r.broken && r.rest == ""
}

func (q *query) readQuestion(r *reader) {
	start := r.rest
	q.name = names.FromLabels(r.labels()...)
	q.kind, q.class = r.short(), r.short()
	q.question = start[:len(start)-len(r.rest)]
}

func (q *query) readOPT(r *reader) {
	name, kind := r.octet(), r.short()
	q.size = r.short()
	_, q.version = r.octet(), r.octet()
	r.take(2)
	r.take(r.short())
	if name != 0 || kind != typeOPT {
		r.broken = true
	}
}

// answer tells what is answered to a query.
func (q query) answer(t *lookup.Table) api.Answer {
	if q.hasOPT && q.version != 0 {
		return api.Answer{Rcode: api.BadVers}
	}
	if q.class != classIN || !isAskable(q.kind) {
		return api.Answer{Rcode: api.Refused}
	}
	return t.Answer(q.name, q.kind)
}

func isAskable(kind int) bool {
	return kind != 0 && kind != typeOPT && (kind < firstMeta || kind > lastMeta)
}

// limit tells how long the reply may be.
func (q query) limit() int {
	if !q.hasOPT {
		return api.MinUDP
	}
	return min(max(q.size, api.MinUDP), api.MaxUDP)
}

package wire

// reader takes a message apart, from its start on. It is broken when the
// message does not have what was asked for; what it gave is worth nothing then.
type reader struct {
	rest   string
	broken bool
}

// take gives the next bytes. They are that many in any case, so that nobody
// has to ask whether it is broken ahead of the end.
func (r *reader) take(n int) string {
	if n > len(r.rest) {
		r.broken, r.rest = true, ""
		return string(make([]byte, n))
	}
	taken := r.rest[:n]
	r.rest = r.rest[n:]
	return taken
}

func (r *reader) octet() int {
	return int(r.take(1)[0])
}

func (r *reader) short() int {
	b := r.take(2)
	return int(b[0])<<8 | int(b[1])
}

// labels reads a name without pointers.
func (r *reader) labels() []string {
	var labels []string
	size := 1
	for n := r.octet(); n > 0; n = r.octet() {
		size += 1 + n
		if n > maxWireLabel || size > maxWireName {
			r.broken = true
			return nil
		}
		labels = append(labels, r.take(n))
	}
	return labels
}

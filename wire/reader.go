package wire

// reader takes a message apart, from its start on. It is broken when the
// message does not have what was asked for; what it gave is worth nothing then.
type reader struct {
	rest   string
	broken bool
}

// take gives the next bytes, or none at all if there are not so many.
func (r *reader) take(n int) string {
	if n > len(r.rest) {
		r.broken, r.rest = true, ""
		return ""
	}
	taken := r.rest[:n]
	r.rest = r.rest[n:]
	return taken
}

// octet gives a number in any case, so that nobody has to ask whether the
// reader is broken ahead of the end.
func (r *reader) octet() int {
	if taken := r.take(1); taken != "" {
		return int(taken[0])
	}
	return 0
}

func (r *reader) short() int {
	return r.octet()<<8 | r.octet()
}

// labels reads a name without pointers.
func (r *reader) labels() []string {
	var labels []string
	size := 1
	for n := r.octet(); n > 0; n = r.octet() {
		size += 1 + n
		if n > maxWireLabel || size > maxWireName {
			r.broken = true
			return nil
		}
		labels = append(labels, r.take(n))
	}
	return labels
}

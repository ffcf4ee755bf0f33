package wire

// What datagrams are made of (UDP).
const (
	datagramHead = 8
	portDNS      = 53
	// noCheck stands in place of a checksum by who made none. So a checksum
	// that would be noCheck is written as the other zero, which adds as much.
	noCheck   = 0
	otherZero = 0xffff
)

// datagram carries a message from a port to another.
type datagram struct {
	from, to int
	message  string
}

// readDatagram reads what a packet carries, and tells whether it is right.
func (p packet) readDatagram() (datagram, bool) {
	r := &reader{rest: p.rest}
	d := datagram{from: r.short(), to: r.short()}
	size, check := r.short(), r.short()
	if size < datagramHead {
		return datagram{}, false
	}
	d.message = r.take(size - datagramHead)
	if r.broken {
		return datagram{}, false
	}
	return d, check == noCheck || p.sumWith(p.rest[:size]) == rightSum
}

// carrying gives a packet with a datagram in it.
func (p packet) carrying(d datagram) packet {
	ahead := written(short(d.from), short(d.to), short(datagramHead+len(d.message)))
	unchecked := written(raw(ahead), short(noCheck), raw(d.message))
	check := rightSum - p.sumWith(unchecked)
	if check == noCheck {
		check = otherZero
	}
	p.rest = written(raw(ahead), short(check), raw(d.message))
	return p
}

// sumWith adds up a datagram's bytes, and the packet's addresses with them: so
// one that has come to a wrong address is not right.
func (p packet) sumWith(bytes string) int {
	return sum(raw(p.from), raw(p.to), short(protocolUDP), short(len(bytes)), raw(bytes))
}

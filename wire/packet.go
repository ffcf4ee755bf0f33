package wire

import "beacon/zone"

// What packets are made of (IPv4).
const (
	ipSize     = 4
	packetHead = 20
	// packetStart is the version and, in words of four bytes, the size of a
	// header without options.
	packetStart = 0x45
	// pieceBits tell that a packet is but a piece of one.
	pieceBits   = 0x3fff
	wholeBit    = 0x4000
	hops        = 64
	protocolUDP = 17
)

// packet is one that carries a datagram from an address to another.
type packet struct {
	from, to string
	rest     string
}

// readPacket reads one, and tells whether it is right and carries a datagram.
func readPacket(bytes string) (packet, bool) {
	r := &reader{rest: bytes}
	head := r.take(packetHead)
	h := &reader{rest: head}
	start, _ := h.octet(), h.octet()
	size, _, piece := h.short(), h.short(), h.short()
	_, protocol, _ := h.octet(), h.octet(), h.short()
	p := packet{from: h.take(ipSize), to: h.take(ipSize)}
	if size < packetHead+datagramHead || sum(raw(head)) != rightSum {
		return packet{}, false
	}
	p.rest = r.take(size - packetHead)
	right := start == packetStart && piece&pieceBits == 0 && protocol == protocolUDP
	return p, right && !r.broken
}

func (p packet) bytes() string {
	ahead := written(
		octet(packetStart), octet(0), short(packetHead+len(p.rest)),
		short(0), short(wholeBit), octet(hops), octet(protocolUDP),
	)
	check := rightSum - sum(raw(ahead), raw(p.from), raw(p.to))
	return written(raw(ahead), short(check), raw(p.from), raw(p.to), raw(p.rest))
}

// answer gives the packet that is sent back, and tells whether there is one.
func (p packet) answer(z *zone.Zone) (packet, bool) {
	d, ok := p.readDatagram()
	if !ok || d.to != portDNS {
		return packet{}, false
	}
	message := Reply(z, d.message)
	if message == "" {
		return packet{}, false
	}
	back := packet{from: p.to, to: p.from}
	return back.carrying(datagram{from: d.to, to: d.from, message: message}), true
}

package wire

import (
	"beacon/api"
	"beacon/zone"
)

// What frames are made of (Ethernet).
const (
	macSize   = 6
	everybody = "\xff\xff\xff\xff\xff\xff"
	kindIPv4  = 0x0800
	kindARP   = 0x0806
)

// frame is one that goes from a card to another.
type frame struct {
	to, from string
	kind     int
	rest     string
}

func readFrame(bytes string) (frame, bool) {
	r := &reader{rest: bytes}
	f := frame{to: r.take(macSize), from: r.take(macSize), kind: r.short()}
	f.rest = r.rest
	return f, !r.broken
}

func (f frame) bytes() string {
	return written(raw(f.to), raw(f.from), short(f.kind), raw(f.rest))
}

// answer gives the frame that is sent back, or nothing.
func (f frame) answer(z *zone.Zone, c api.Config) string {
	switch f.kind {
	case kindARP:
		return f.answerARP(c)
	case kindIPv4:
		return f.answerPacket(z, c)
	}
	return ""
}

// The answer goes to who asks by the question's own words: the frame may have
// come from another card.
func (f frame) answerARP(c api.Config) string {
	a, ok := readARP(f.rest)
	if !ok || a.operation != arpRequest || a.target.IP != c.IP {
		return ""
	}
	told := arp{operation: arpReply, sender: c, target: a.sender}
	return frame{to: a.sender.MAC, from: c.MAC, kind: kindARP, rest: told.bytes()}.bytes()
}

func (f frame) answerPacket(z *zone.Zone, c api.Config) string {
	p, ok := readPacket(f.rest)
	if !ok || p.to != c.IP {
		return ""
	}
	back, ok := p.answer(z)
	if !ok {
		return ""
	}
	return frame{to: f.from, from: c.MAC, kind: kindIPv4, rest: back.bytes()}.bytes()
}

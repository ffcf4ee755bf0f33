package wire

import "beacon/api"

const (
	// arpStart says that addresses are those of Ethernet and of IPv4, and how
	// long they are.
	arpStart   = "\x00\x01\x08\x00\x06\x04"
	arpRequest = 1
	arpReply   = 2
)

// arp asks who has an address, or tells it.
type arp struct {
	operation      int
	sender, target api.Config
}

func readARP(bytes string) (arp, bool) {
	r := &reader{rest: bytes}
	start := r.take(len(arpStart))
	a := arp{operation: r.short(), sender: r.station(), target: r.station()}
	return a, start == arpStart && !r.broken
}

// station reads the addresses of one card.
func (r *reader) station() api.Config {
	return api.Config{MAC: r.take(macSize), IP: r.take(ipSize)}
}

func (a arp) bytes() string {
	return written(
		raw(arpStart), short(a.operation),
		raw(a.sender.MAC), raw(a.sender.IP),
		raw(a.target.MAC), raw(a.target.IP),
	)
}

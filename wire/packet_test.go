package wire

import (
	"testing"

	"beacon/zone"
)

// headed is a frame with the same datagram in a packet with another header,
// whose checksum is made.
func headed(at int, bytes string) string {
	frame := inUDP(webAsk)
	return frame[:14] + withSum(change(frame[14:34], at, bytes)) + frame[34:]
}

// answers tells whether a frame is answered so, or not at all.
func answers(t *testing.T, z *zone.Zone, frame string, does bool, back string) {
	t.Helper()
	if !does {
		back = ""
	}
	handles(t, z, frame, back)
}

// P6: of a header's fields some are fixed, and some may be any.
func TestHeaderFields(t *testing.T) {
	z := mustParse(t, example)
	back := backUDP(Reply(z, webAsk))
	for b := range 256 {
		sign := string([]byte{byte(b)})
		answers(t, z, headed(0, sign), b == 69, back)
		answers(t, z, headed(1, sign), true, back)
		answers(t, z, headed(8, sign), true, back)
		answers(t, z, headed(9, sign), b == 17, back)
		for i := range cardIP {
			// Without the datagram's checksum, that would tell it as well.
			frame := change(headed(16+i, sign), 40, "\x00\x00")
			answers(t, z, frame, sign == cardIP[i:i+1], back)
		}
	}
	for n := range 65536 {
		answers(t, z, headed(4, two(n)), true, back)
		answers(t, z, headed(6, two(n)), n&0x3fff == 0, back)
	}
}

// P6: a header's checksum is right, or there is no answer.
func TestHeaderSum(t *testing.T) {
	z := mustParse(t, example)
	frame := inUDP(webAsk)
	back := backUDP(Reply(z, webAsk))
	for n := range 65536 {
		answers(t, z, change(frame, 24, two(n)), two(n) == frame[24:26], back)
	}
	// The other zero: the sum without the checksum is 65535 already.
	rest := onesSum(change(change(frame[14:34], 4, "\x00\x00"), 10, "\x00\x00"))
	zero := change(change(frame, 18, two(65535-rest)), 24, "\x00\x00")
	handles(t, z, zero, back)
	handles(t, z, change(zero, 24, "\xff\xff"), back)
}

// P6: options are not taken, however right they are.
func TestOptions(t *testing.T) {
	z := mustParse(t, example)
	u := udp(otherIP, cardIP, 40000, 53, webAsk)
	for words := range 16 {
		if words == 5 {
			continue
		}
		options := ""
		for len(options) < 4*words-20 {
			options += "\x01\x01\x01\x00"
		}
		header := change(ipHeader(20+len(options)+len(u), otherIP, cardIP), 0, string([]byte{byte(64 + words)}))
		check := 65535 - onesSum(change(header, 10, "\x00\x00")+options)
		for _, h := range []string{withSum(header), change(header, 10, two(check))} {
			handles(t, z, cardMAC+otherMAC+"\x08\x00"+h+options+u, "")
		}
	}
}

// P6: the total length is from 28 up to what there is, and the datagram is
// within it.
func TestTotalLength(t *testing.T) {
	z := mustParse(t, example)
	back := backUDP(Reply(z, webAsk))
	size := len(inUDP(webAsk)) - 14
	for n := range 65536 {
		frame := headed(2, two(n))
		answers(t, z, frame, n == size, back)
		answers(t, z, frame+padding, n >= size && n <= size+len(padding), back)
	}
	// A datagram without a message, in the shortest packet there may be.
	empty := inPacket(udp(otherIP, cardIP, 40000, 53, ""))
	handles(t, z, empty, "")
	handles(t, z, empty+padding, "")
}

// P6: a datagram's length is from 8 up to what the packet has, and its message
// ends there.
func TestUDPLength(t *testing.T) {
	z := mustParse(t, example)
	message := webAsk + "more"
	for n := range 65536 {
		u := change(udp(otherIP, cardIP, 40000, 53, message), 4, two(n))
		unchecked := inPacket(change(u, 6, "\x00\x00"))
		want := ""
		if n >= 8+12 && n <= len(u) {
			want = backUDP(Reply(z, message[:n-8]))
		}
		handles(t, z, unchecked, want)
		handles(t, z, unchecked+padding, want)
		if n != len(u) {
			handles(t, z, inPacket(u), "")
		}
		if n >= 8 && n <= len(u) {
			// The checksum is of what the length says alone.
			handles(t, z, inPacket(udp(otherIP, cardIP, 40000, 53, message[:n-8])+message[n-8:]), want)
		}
	}
}

// P6: the port is 53.
func TestPort(t *testing.T) {
	z := mustParse(t, example)
	back := backUDP(Reply(z, webAsk))
	for port := range 65536 {
		answers(t, z, inPacket(udp(otherIP, cardIP, 40000, port, webAsk)), port == 53, back)
	}
}

// P6: a datagram's checksum is 0, or right.
func TestUDPSum(t *testing.T) {
	z := mustParse(t, example)
	for _, message := range []string{webAsk, webAsk[:12], webAsk + "x"} {
		frame := inUDP(message)
		back := backUDP(Reply(z, message))
		for n := range 65536 {
			answers(t, z, change(frame, 40, two(n)), n == 0 || two(n) == frame[40:42], back)
		}
	}
	// Those of other addresses are wrong.
	handles(t, z, inPacket(udp("\xc6\x33\x64\x08", cardIP, 40000, 53, webAsk)), "")
	handles(t, z, inPacket(udp(otherIP, "\xc0\x00\x02\x36", 40000, 53, webAsk)), "")
}

// P6: a checksum that would be 0 is 65535, in what comes and in what is sent.
func TestOtherZero(t *testing.T) {
	z := mustParse(t, example)
	came, sent := 0, 0
	for id := range 65536 {
		message := change(webAsk, 0, two(id))
		frame, back := inUDP(message), backUDP(Reply(z, message))
		if frame[40:42] == "\xff\xff" {
			came++
		}
		if back[40:42] == "\xff\xff" {
			sent++
		}
		handles(t, z, frame, back)
	}
	if came != 1 || sent != 1 {
		t.Errorf("checksums of 65535: %d have come, %d were sent", came, sent)
	}
}

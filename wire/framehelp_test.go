package wire

import (
	"encoding/binary"
	"strings"
	"testing"

	"beacon/api"
	"beacon/zone"
)

const (
	cardMAC  = "\x52\x54\x00\x12\x34\x56"
	otherMAC = "\x52\x54\x00\x65\x43\x21"
	allMACs  = "\xff\xff\xff\xff\xff\xff"
	cardIP   = "\xc0\x00\x02\x35"
	otherIP  = "\xc6\x33\x64\x07"
)

var card = api.Config{MAC: cardMAC, IP: cardIP}

// onesSum adds up as P6 says; it is not the program's own way.
func onesSum(s string) int {
	n := 0
	for ; len(s) > 1; s = s[2:] {
		n += int(binary.BigEndian.Uint16([]byte(s)))
	}
	if s != "" {
		n += int(s[0]) << 8
	}
	if n == 0 {
		return 0
	}
	return (n-1)%65535 + 1
}

// change gives a text with other bytes at a place.
func change(s string, at int, bytes string) string {
	return s[:at] + bytes + s[at+len(bytes):]
}

// withSum makes an IPv4 header's checksum.
func withSum(header string) string {
	header = change(header, 10, "\x00\x00")
	return change(header, 10, two(65535-onesSum(header)))
}

// ipHeader is one without options, whose other fields are those of a query.
func ipHeader(size int, from, to string) string {
	return withSum("\x45\x00" + two(size) + "\x12\x34\x00\x00\x3f\x11\x00\x00" + from + to)
}

// udp is a datagram, with its length and its checksum made.
func udp(from, to string, source, destination int, message string) string {
	n := 8 + len(message)
	s := two(source) + two(destination) + two(n) + "\x00\x00" + message
	check := 65535 - onesSum(from+to+"\x00\x11"+two(n)+s)
	if check == 0 {
		check = 65535
	}
	return change(s, 6, two(check))
}

// inPacket is a frame of an IPv4 packet with these bytes, to the card.
func inPacket(bytes string) string {
	return cardMAC + otherMAC + "\x08\x00" + ipHeader(20+len(bytes), otherIP, cardIP) + bytes
}

// inUDP is a frame with a message to the card.
func inUDP(message string) string {
	return inPacket(udp(otherIP, cardIP, 40000, 53, message))
}

// backUDP is the frame with which the card answers what inUDP is.
func backUDP(message string) string {
	bytes := udp(cardIP, otherIP, 53, 40000, message)
	header := "\x45\x00" + two(20+len(bytes)) + "\x00\x00\x40\x00\x40\x11\x00\x00" + cardIP + otherIP
	return otherMAC + cardMAC + "\x08\x00" + withSum(header) + bytes
}

// handles stops at what is wrong: many ask it for tens of thousands of frames.
func handles(t *testing.T, z *zone.Zone, frame, want string) {
	t.Helper()
	if got := Handle(z, card, frame); got != want {
		t.Fatalf("P6: Handle(%q) =\n%q, want\n%q", frame, got, want)
	}
}

// expected tells what the card answers to a frame, by the places of its bytes.
func expected(z *zone.Zone, c api.Config, f string) string {
	if len(f) < 14 || f[:6] != c.MAC && f[:6] != allMACs {
		return ""
	}
	body := f[14:]
	switch f[12:14] {
	case "\x08\x06":
		if len(body) < 28 || body[:8] != "\x00\x01\x08\x00\x06\x04\x00\x01" || body[24:28] != c.IP {
			return ""
		}
		return body[8:14] + c.MAC + "\x08\x06\x00\x01\x08\x00\x06\x04\x00\x02" + c.MAC + c.IP + body[8:18]
	case "\x08\x00":
		return expectedUDP(z, c, f[6:12], body)
	}
	return ""
}

func expectedUDP(z *zone.Zone, c api.Config, from, p string) string {
	if len(p) < 28 || p[0] != 69 || onesSum(p[:20]) != 65535 || p[16:20] != c.IP {
		return ""
	}
	total := int(p[2])<<8 + int(p[3])
	if total < 28 || total > len(p) || p[6]&63 != 0 || p[7] != 0 || p[9] != 17 {
		return ""
	}
	u := p[20:total]
	n := int(u[4])<<8 + int(u[5])
	if n < 8 || n > len(u) || u[2:4] != "\x00\x35" {
		return ""
	}
	if u[6:8] != "\x00\x00" && onesSum(p[12:20]+"\x00\x11"+u[4:6]+u[:n]) != 65535 {
		return ""
	}
	reply := Reply(z, u[8:n])
	if reply == "" {
		return ""
	}
	u = udp(c.IP, p[12:16], 53, int(u[0])<<8+int(u[1]), reply)
	header := "\x45\x00" + two(20+len(u)) + "\x00\x00\x40\x00\x40\x11\x00\x00" + c.IP + p[12:16]
	return from + c.MAC + "\x08\x00" + withSum(header) + u
}

// padding is what a card may add behind a short frame.
var padding = strings.Repeat("\x00", 18)

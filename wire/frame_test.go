package wire

import (
	"fmt"
	"strings"
	"testing"

	"beacon/api"
)

// webAsk asks for an address, of which the document's fourth example tells.
var webAsk = head(1, 0x100, 1, 0, 0, 0) + question(named("web.example.org"), api.A)

// P6: a frame and its answer, byte by byte.
func TestFrame(t *testing.T) {
	z := mustParse(t, example)
	frame := "\x52\x54\x00\x12\x34\x56\x52\x54\x00\x65\x43\x21\x08\x00" +
		"\x45\x00\x00\x3d\x12\x34\x00\x00\x3f\x11\x7d\x0c\xc6\x33\x64\x07\xc0\x00\x02\x35" +
		"\x9c\x40\x00\x35\x00\x29\x3b\x68" +
		"\x00\x01\x01\x00\x00\x01\x00\x00\x00\x00\x00\x00\x03web\x07example\x03org\x00\x00\x01\x00\x01"
	want := "\x52\x54\x00\x65\x43\x21\x52\x54\x00\x12\x34\x56\x08\x00" +
		"\x45\x00\x00\x4d\x00\x00\x40\x00\x40\x11\x4e\x30\xc0\x00\x02\x35\xc6\x33\x64\x07" +
		"\x00\x35\x9c\x40\x00\x39\x17\xc4" +
		"\x00\x01\x85\x00\x00\x01\x00\x01\x00\x00\x00\x00\x03web\x07example\x03org\x00\x00\x01\x00\x01" +
		"\xc0\x0c\x00\x01\x00\x01\x00\x00\x00\x3c\x00\x04\xc0\x00\x02\x50"
	handles(t, z, frame, want)
	handles(t, z, change(frame, 0, allMACs), want)
	handles(t, z, frame+padding, want)
	if frame != inUDP(webAsk) || want != backUDP(Reply(z, webAsk)) {
		t.Error("the tests' own frames are others")
	}
}

// P6: only what comes for the card, of the two kinds, is answered.
func TestOtherFrames(t *testing.T) {
	z := mustParse(t, example)
	frame := inUDP(webAsk)
	for i := range frame {
		handles(t, z, frame[:i], "")
	}
	for _, to := range []string{otherMAC, "\x01group", "\x00\x00\x00\x00\x00\x00", "\xff\xff\xff\xff\xff\xfe", cardMAC[1:] + cardMAC[:1]} {
		handles(t, z, change(frame, 0, to), "")
	}
	arp := who(cardMAC, asking, "target", cardIP)
	for kind := range 65536 {
		if kind != 0x0800 {
			handles(t, z, change(frame, 12, two(kind)), "")
		}
		if kind != 0x0806 {
			handles(t, z, change(arp, 12, two(kind)), "")
		}
	}
}

// P6: the answer goes to where the frame came from, any ones.
func TestTurnedRound(t *testing.T) {
	z := mustParse(t, example)
	reply := Reply(z, webAsk)
	for _, mac := range []string{otherMAC, cardMAC, allMACs, "\x00\x00\x00\x00\x00\x00"} {
		for _, ip := range []string{otherIP, cardIP, "\x00\x00\x00\x00", "\xff\xff\xff\xff"} {
			for _, port := range []int{0, 1, 53, 1023, 65535} {
				u := udp(ip, cardIP, port, 53, webAsk)
				got := Handle(z, card, cardMAC+mac+"\x08\x00"+ipHeader(20+len(u), ip, cardIP)+u)
				u = udp(cardIP, ip, 53, port, reply)
				header := "\x45\x00" + two(20+len(u)) + "\x00\x00\x40\x00\x40\x11\x00\x00" + cardIP + ip
				if got != mac+cardMAC+"\x08\x00"+withSum(header)+u {
					t.Errorf("P6: from %q, %q, port %d: %q", mac, ip, port, got)
				}
			}
		}
	}
}

// P6: the MAC and the IP are those that are handed in.
func TestOtherCards(t *testing.T) {
	z := mustParse(t, example)
	for _, c := range []api.Config{card, {MAC: otherMAC, IP: cardIP}, {MAC: cardMAC, IP: otherIP}, {MAC: "\x00\x00\x00\x00\x00\x00", IP: "\x00\x00\x00\x00"}, {MAC: "\xfe\xff\xff\xff\xff\xff", IP: "\xff\xff\xff\xff"}} {
		for _, to := range []string{cardMAC, otherMAC, allMACs, c.MAC} {
			for _, ip := range []string{cardIP, otherIP, c.IP} {
				u := udp(otherIP, ip, 7, 53, webAsk)
				for _, frame := range []string{who(to, asking, "target", ip), to + otherMAC + "\x08\x00" + ipHeader(20+len(u), otherIP, ip) + u} {
					got, want := Handle(z, c, frame), expected(z, c, frame)
					if got != want || (got != "") != ((to == c.MAC || to == allMACs) && ip == c.IP) {
						t.Errorf("P6: Handle(%q, %q) = %q, want %q", c, frame, got, want)
					}
				}
			}
		}
	}
}

// P6: what Reply says nothing to, nothing is sent for; all else is sent whole.
func TestMessages(t *testing.T) {
	z := mustParse(t, example)
	for i := range 12 {
		handles(t, z, inUDP(webAsk[:i]), "")
	}
	handles(t, z, inUDP(change(webAsk, 2, "\x80")), "")
	messages := []string{
		webAsk[:12], webAsk[:13], webAsk + "x", change(webAsk, 2, "\x08"),
		ask(named("other.net"), api.A), ask(named("x.wild.example.org"), api.TXT), ask(named("none.example.org"), api.A),
		askOPT(named("example.org"), api.Any, 1232), ask(labels("\x00.", "\xff"), api.A),
		head(7, 0, 1, 0, 0, 1) + question(named("example.org"), api.A) + opt(1232, noTTL, strings.Repeat("d", 60000)),
	}
	for _, message := range messages {
		reply := Reply(z, message)
		if reply == "" {
			t.Errorf("P4: no reply to %q", message)
		}
		handles(t, z, inUDP(message), backUDP(reply))
	}
}

// P6: a reply of the greatest size is sent whole, and frames may have any size.
func TestGreatFrames(t *testing.T) {
	text := start
	for i := range 8 {
		text += fmt.Sprintf("a.zz 1 A 1.1.1.%d\n", i)
	}
	for i := range 21 {
		text += fmt.Sprintf("a.zz 1 TXT %038d\n", i)
	}
	z := mustParse(t, text)
	for _, size := range []int{512, 1231, 1232, 65535} {
		message := askOPT(named("a.zz"), api.Any, size)
		handles(t, z, inUDP(message), backUDP(Reply(z, message)))
	}
	if got := Handle(z, card, inUDP(askOPT(named("a.zz"), api.Any, 1232))); len(got) != 14+20+8+1232 {
		t.Errorf("P6: the greatest frame has %d bytes", len(got))
	}
	for _, size := range []int{1472, 65506, 65507} {
		message := webAsk + strings.Repeat("\xff", size-len(webAsk))
		handles(t, z, inUDP(message), backUDP(Reply(z, message)))
		handles(t, z, inUDP(message)+strings.Repeat("more", 20000), backUDP(Reply(z, message)))
	}
}

package wire

import (
	"math/rand"
	"strings"
	"sync"
	"testing"

	"beacon/api"
	"beacon/zone"
)

// goodReply tells whether a reply is one that P4 lets be, as far as it can be
// seen without the zone.
func goodReply(message, reply string) bool {
	if len(message) < 12 || message[2]&0x80 != 0 {
		return reply == ""
	}
	p, err := decode(reply)
	if err != nil || len(reply) > 1232 || p.opt == "" && len(reply) > 512 {
		return false
	}
	if reply[:2] != message[:2] || reply[2]&0xf9 != message[2]&0x79|0x80 || reply[3]&0xf0 != 0 {
		return false
	}
	return len(reply) == 12 || strings.HasPrefix(message[12:], p.question)
}

// P1: a message changed at any place ends, and has a good reply.
func TestEndsAtAllMessages(t *testing.T) {
	z := mustParse(t, example+lines("loop.example.org 1 CNAME loop.example.org"))
	try := func(message string) {
		t.Helper()
		if got := Reply(z, message); !goodReply(message, got) {
			t.Fatalf("P1, P4: Reply(%q) = %q", message, got)
		}
	}
	for _, name := range []string{"web.example.org", "loop.example.org", "x.wild.example.org", "example.org", "a.sub.example.org"} {
		message := head(7, 0x100, 1, 0, 0, 1) + question(named(name), api.Any) + opt(1232, noTTL, "data")
		for i := range message {
			try(message[:i])
			try(message[i:])
			for b := range 256 {
				sign := string([]byte{byte(b)})
				try(message[:i] + sign + message[i+1:])
				try(message[:i] + sign + message[i:])
			}
		}
	}
	for _, sign := range []string{"\x00", "\x01", "\x3f", "\xc0", "\xff"} {
		try(strings.Repeat(sign, 1<<16))
		try(head(7, 0, 1, 0, 0, 0) + strings.Repeat(sign, 1<<16))
		try(head(7, 0, 1, 0, 0, 1) + question(named("example.org"), api.A) + opt(65535, noTTL, strings.Repeat(sign, 65535)))
	}
	source := rand.New(rand.NewSource(1))
	for range 20000 {
		bytes := make([]byte, source.Intn(40))
		source.Read(bytes)
		try(head(7, 0, 1, 0, 0, source.Intn(2)) + string(bytes))
	}
}

// P1, P6: a frame changed at any place ends, and is answered as it should be.
func TestEndsAtAllFrames(t *testing.T) {
	z := mustParse(t, example)
	try := func(frame string) {
		t.Helper()
		if got, want := Handle(z, card, frame), expected(z, card, frame); got != want {
			t.Fatalf("P1, P6: Handle(%q) = %q, want %q", frame, got, want)
		}
	}
	unchecked := change(inUDP(webAsk), 40, "\x00\x00")
	for _, frame := range []string{inUDP(webAsk), unchecked, who(allMACs, asking, "target", cardIP)} {
		for i := range frame {
			try(frame[:i])
			try(frame[i:])
			for b := range 256 {
				sign := string([]byte{byte(b)})
				try(change(frame, i, sign))
				try(frame[:i] + sign + frame[i:])
			}
		}
	}
	for _, sign := range []string{"\x00", "\x45", "\xff"} {
		try(strings.Repeat(sign, 1<<17))
		try(cardMAC + otherMAC + "\x08\x00" + strings.Repeat(sign, 1<<17))
		try(cardMAC + otherMAC + "\x08\x06" + strings.Repeat(sign, 1<<17))
	}
	source := rand.New(rand.NewSource(2))
	for range 20000 {
		bytes := make([]byte, source.Intn(60))
		source.Read(bytes)
		try(inPacket(udp(otherIP, cardIP, source.Intn(65536), 53, string(bytes))))
		try(inPacket(string(bytes)))
		try(cardMAC + otherMAC + "\x08\x06" + string(bytes))
	}
}

// P1: a card of which nothing is said does not stop it.
func TestNoCard(t *testing.T) {
	z := mustParse(t, example)
	for _, mac := range []string{"", "m", cardMAC, cardMAC + "x", allMACs, strings.Repeat("m", 70000)} {
		for _, ip := range []string{"", "i", cardIP, cardIP + "x", strings.Repeat("i", 70000)} {
			c := api.Config{MAC: mac, IP: ip}
			for _, frame := range []string{"", mac, allMACs, inUDP(webAsk), change(inUDP(webAsk), 0, allMACs), who(allMACs, asking, "target", cardIP), mac + ip} {
				if Handle(z, c, frame) != Handle(z, c, frame) {
					t.Errorf("P2: two answers to %q", frame)
				}
			}
		}
	}
}

// P1: what Parse gives beside an error can be asked, too.
func TestNoZone(t *testing.T) {
	z, _ := zone.Parse("")
	for _, name := range []string{"", "a", "example.org"} {
		replies(t, z, ask(named(name), api.A), head(7, 0x8005, 1, 0, 0, 0)+question(named(name), api.A))
	}
	replies(t, z, "", "")
	replies(t, z, head(7, 0, 0, 0, 0, 0), head(7, 0x8001, 0, 0, 0, 0))
	handles(t, z, inUDP(webAsk), backUDP(Reply(z, webAsk)))
	handles(t, z, who(allMACs, asking, "target", cardIP), mineIs)
}

// P2: neither other zones nor calls ahead or beside are seen in a reply.
func TestRepliesDependOnArguments(t *testing.T) {
	z := mustParse(t, example)
	var messages []string
	for _, word := range strings.Fields(example) {
		for _, kind := range []int{api.A, api.NS, api.TXT, api.Any} {
			messages = append(messages, ask(named("x."+word), kind), askOPT(named(word), kind, 600))
		}
	}
	everything := func(z *zone.Zone) string {
		var s strings.Builder
		for _, message := range messages {
			s.WriteString(Reply(z, message))
			s.WriteString(Handle(z, card, inUDP(message)))
		}
		return s.String()
	}
	first := everything(z)
	everything(mustParse(t, start))
	var group sync.WaitGroup
	for range 8 {
		group.Add(1)
		go func() {
			defer group.Done()
			if everything(z) != first {
				t.Error("P2: another reply to the same message")
			}
		}()
	}
	group.Wait()
	if everything(mustParse(t, strings.Clone(example))) != first {
		t.Error("P2: another reply of the same zone")
	}
}

package wire

import (
	"testing"
)

// who asks for an address, as a sender that is not the frame's source.
func who(to, start, target, ip string) string {
	return to + otherMAC + "\x08\x06" + start + "\x02asker" + otherIP + target + ip
}

const (
	asking = "\x00\x01\x08\x00\x06\x04\x00\x01"
	mineIs = "\x02asker" + cardMAC + "\x08\x06\x00\x01\x08\x00\x06\x04\x00\x02" + cardMAC + cardIP + "\x02asker" + otherIP
)

// P6: who asks for the card's address is told it.
func TestARP(t *testing.T) {
	z := mustParse(t, example)
	for _, to := range []string{allMACs, cardMAC} {
		for _, target := range []string{"\x00\x00\x00\x00\x00\x00", allMACs, cardMAC, "others"} {
			request := who(to, asking, target, cardIP)
			handles(t, z, request, mineIs)
			handles(t, z, request+padding, mineIs)
			handles(t, z, request+"x", mineIs)
			handles(t, z, request+request, mineIs)
		}
	}
}

// P6: the answer goes to the sender's addresses as they are told, any ones.
func TestARPSender(t *testing.T) {
	z := mustParse(t, example)
	for _, mac := range []string{otherMAC, cardMAC, allMACs, "\x00\x00\x00\x00\x00\x00", "\x01group"} {
		for _, ip := range []string{otherIP, cardIP, "\x00\x00\x00\x00", "\xff\xff\xff\xff"} {
			request := allMACs + "\x02nobdy\x08\x06" + asking + mac + ip + "target" + cardIP
			handles(t, z, request, mac+cardMAC+"\x08\x06\x00\x01\x08\x00\x06\x04\x00\x02"+cardMAC+cardIP+mac+ip)
		}
	}
}

// P6: nothing is told to another question, or to one for another card.
func TestNoARP(t *testing.T) {
	z := mustParse(t, example)
	request := who(allMACs, asking, "target", cardIP)
	handles(t, z, request, mineIs)
	for i := range request {
		handles(t, z, request[:i], "")
	}
	fixed := []int{0, 1, 2, 3, 4, 5, 12, 13, 14, 15, 16, 17, 18, 19, 20, 21, 38, 39, 40, 41}
	for _, i := range fixed {
		for b := range 256 {
			if sign := string([]byte{byte(b)}); sign != request[i:i+1] {
				handles(t, z, change(request, i, sign), "")
			}
		}
	}
	for _, to := range []string{otherMAC, "\x01group", "\x00\x00\x00\x00\x00\x00", cardMAC[1:] + cardMAC[:1]} {
		handles(t, z, who(to, asking, "target", cardIP), "")
	}
	// What tells an address is not answered, nor a question for another one.
	handles(t, z, who(cardMAC, asking[:7]+"\x02", cardMAC, cardIP), "")
	handles(t, z, who(allMACs, asking, "target", otherIP), "")
	handles(t, z, who(allMACs, asking, "target", "\xff\xff\xff\xff"), "")
	handles(t, z, mineIs, "")
}

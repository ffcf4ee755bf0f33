package wire

// headerSize is how many bytes stand ahead of the questions.
const headerSize = 12

// The bits that stand between the ID and the counts.
const (
	replyBit         = 0x8000
	opcodeBits       = 0x7800
	authoritativeBit = 0x0400
	truncatedBit     = 0x0200
	recursionBit     = 0x0100
	rcodeBits        = 0x000f
)

// header stands ahead in a message.
type header struct {
	id, bits int
	// counts are those of the questions, and of the three lists of records.
	counts [4]int
}

func readHeader(message string) (header, bool) {
	r := &reader{rest: message}
	h := header{id: r.short(), bits: r.short()}
	for i := range h.counts {
		h.counts[i] = r.short()
	}
	return h, !r.broken
}

// turned gives the header of a reply with nothing in it.
func (h header) turned(rcode int) header {
	return header{id: h.id, bits: replyBit | h.bits&(opcodeBits|recursionBit) | rcode&rcodeBits}
}

// refusal gives a reply without a question.
func (h header) refusal(rcode int) string {
	return newMessage().under(h.turned(rcode))
}

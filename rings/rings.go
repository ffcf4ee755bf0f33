// Package rings: the card's rings in the memory, as the machine has them: see
// DOC.md, P7.
package rings

import "beacon/api"

// Where the rings and the buffers stand in the memory.
const (
	receiveBase    = 0
	sendBase       = 512
	receiveBuffers = 1024
	sendBuffers    = receiveBuffers + api.Slots*api.Buffer
)

// headerSize is what stands ahead of a frame in a buffer. The machine asks the
// card for nothing by it, and goes by nothing that the card says in it.
const headerSize = 12

// Lay writes both rings into a memory. Once the receive ring has its index the
// card may begin, so that this comes last.
func Lay(m api.Memory) (*Receive, *Send) {
	r := &Receive{ring{memory: m, base: receiveBase, buffers: receiveBuffers}}
	s := &Send{ring{memory: m, base: sendBase, buffers: sendBuffers}}
	r.describe(cardWrites)
	s.describe(cardReads)
	s.offer()
	r.offer(everySlot()...)
	return r, s
}

func everySlot() []int {
	slots := make([]int, api.Slots)
	for i := range slots {
		slots[i] = i
	}
	return slots
}

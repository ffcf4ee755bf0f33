package rings

import "slices"

// Send is the ring by which frames go out.
type Send struct {
	ring
}

// Reclaim takes back the slots whose frames are sent, and tells whether the card
// said the truth of them.
func (s *Send) Reclaim() bool {
	n, ok := s.fresh()
	for ; ok && n > 0; n-- {
		_, ok = s.takeBack(s.load(s.entry(), 4))
	}
	return ok
}

// Send hands a frame to the card, and tells whether a slot was free for it. (No
// frame that is sent is longer than a buffer: a message has api.MaxUDP bytes at
// most, and what is ahead of it few.)
func (s *Send) Send(frame string) bool {
	slot := slices.Index(s.out[:], false)
	if slot < 0 {
		return false
	}
	s.write(slot, frame)
	s.store(descriptorSize*slot+descriptorLength, 4, headerSize+len(frame))
	s.offer(slot)
	return true
}

func (s *Send) write(slot int, frame string) {
	at := s.buffer(slot)
	for i := range headerSize {
		s.memory.Store(at+i, 0)
	}
	for i := range len(frame) {
		s.memory.Store(at+headerSize+i, frame[i])
	}
}

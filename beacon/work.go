package beacon

import (
	"beacon/api"
	"beacon/wire"
)

// What a right config is made of.
const (
	macSize  = 6
	ipSize   = 4
	groupBit = 1
)

func isRight(c api.Config) bool {
	return len(c.MAC) == macSize && c.MAC[0]&groupBit == 0 && len(c.IP) == ipSize
}

// guard does what reaches into the memory. The machine is broken unless that goes
// right: the memory is not the machine's own, and may even panic.
func (b *Machine) guard(step func() bool) {
	right := false
	defer func() {
		if recover() != nil || !right {
			b.counts.Broken = true
		}
	}()
	right = step()
}

// work looks at both rings, and tells whether the card has said the truth.
func (b *Machine) work() bool {
	if !b.send.Reclaim() {
		return false
	}
	for frame, ok := range b.receive.Frames() {
		if !ok {
			return false
		}
		b.counts.Received++
		b.answer(frame)
	}
	return true
}

// answer sends what a frame asks for, if it asks for anything.
func (b *Machine) answer(frame string) {
	back := wire.Handle(b.zone, b.config, frame)
	if back == "" {
		return
	}
	if b.send.Send(back) {
		b.counts.Sent++
	} else {
		b.counts.Dropped++
	}
}

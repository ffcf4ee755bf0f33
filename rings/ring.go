package rings

import "beacon/api"

// Where the parts of a ring stand, from its base on. Both the available and the
// used have their flags ahead of the index, which nobody goes by.
const (
	availableIndex   = 128 + 2
	availableEntries = 128 + 4
	usedIndex        = 256 + 2
	usedEntries      = 256 + 4
)

// The sizes of a ring's parts, and where the parts of a descriptor and of a used
// entry stand in it.
const (
	descriptorSize     = 16
	descriptorLength   = 8
	descriptorFlags    = 12
	descriptorNext     = 14
	availableEntrySize = 2
	usedEntrySize      = 8
	usedEntryLength    = 4
)

// Flags of a descriptor.
const (
	cardReads  = 0
	cardWrites = 2
)

// ring is what both rings are. Its indexes and whose its slots are it keeps by
// itself: what it has written, anybody may have changed in the memory since.
type ring struct {
	memory        api.Memory
	base, buffers int
	// available is the index as it was written last, used the index up to which
	// the card's entries have been gone through.
	available, used uint16
	// out tells which slots the card has.
	out [api.Slots]bool
}

// load reads a number. No byte is read twice: it may be another one by then.
func (r *ring) load(at, size int) uint32 {
	var n uint32
	for i := range size {
		n |= uint32(r.memory.Load(r.base+at+i)) << (8 * i)
	}
	return n
}

func (r *ring) store(at, size, n int) {
	for i := range size {
		r.memory.Store(r.base+at+i, byte(n>>(8*i)))
	}
}

// buffer tells where a slot's buffer stands in the memory.
func (r *ring) buffer(slot int) int {
	return r.buffers + api.Buffer*slot
}

// describe writes the descriptors. Their addresses are never written again.
func (r *ring) describe(flags int) {
	for slot := range api.Slots {
		at := descriptorSize * slot
		r.store(at, 8, r.buffer(slot))
		r.store(at+descriptorLength, 4, api.Buffer)
		r.store(at+descriptorFlags, 2, flags)
		r.store(at+descriptorNext, 2, 0)
	}
}

// offer makes slots available to the card. The index comes last: what it counts
// the card may take at once.
func (r *ring) offer(slots ...int) {
	for _, slot := range slots {
		r.store(availableEntries+availableEntrySize*int(r.available%api.Slots), 2, slot)
		r.available++
		r.out[slot] = true
	}
	r.store(availableIndex, 2, int(r.available))
}

// fresh reads how many entries the card has added, and tells whether it can
// have added so many.
func (r *ring) fresh() (int, bool) {
	n := int(uint16(r.load(usedIndex, 2)) - r.used)
	return n, n <= r.countOut()
}

func (r *ring) countOut() int {
	n := 0
	for _, out := range r.out {
		if out {
			n++
		}
	}
	return n
}

// entry tells where the used entry that is next stands in the ring.
func (r *ring) entry() int {
	return usedEntries + usedEntrySize*int(r.used%api.Slots)
}

// takeBack takes the slot of the used entry that is next from the card, and
// tells whether the card had it.
func (r *ring) takeBack(id uint32) (int, bool) {
	if id >= api.Slots || !r.out[id] {
		return 0, false
	}
	r.out[id] = false
	r.used++
	return int(id), true
}

package rings

import (
	"iter"

	"beacon/api"
)

// Receive is the ring by which frames come in. Whenever the card is asked it has
// all slots.
type Receive struct {
	ring
}

// Frames goes through the frames that have come. Beside a false there is none:
// the card has lied, and nothing comes behind it.
func (r *Receive) Frames() iter.Seq2[string, bool] {
	return func(yield func(string, bool) bool) {
		n, ok := r.fresh()
		if !ok {
			yield("", false)
			return
		}
		for range n {
			frame, ok := r.next()
			if !yield(frame, ok) || !ok {
				return
			}
		}
	}
}

// next reads a frame and hands its slot out again.
func (r *Receive) next() (string, bool) {
	at := r.entry()
	id := r.load(at, 4)
	length := r.load(at+usedEntryLength, 4)
	if length < headerSize || length > api.Buffer {
		return "", false
	}
	slot, ok := r.takeBack(id)
	if !ok {
		return "", false
	}
	frame := r.read(slot, int(length))
	r.offer(slot)
	return frame, true
}

// read copies a frame out of the memory, where others may write into it.
func (r *Receive) read(slot, length int) string {
	frame := make([]byte, 0, length-headerSize)
	for i := headerSize; i < length; i++ {
		frame = append(frame, r.memory.Load(r.buffer(slot)+i))
	}
	return string(frame)
}

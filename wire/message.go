package wire

import "beacon/names"

// A pointer is two bits and a place. maxPlace is the first one that it does
// not reach.
const (
	pointerBits = 0xc000
	maxPlace    = 0x4000
)

// message is one that is being written. Its header is written last.
type message struct {
	bytes []byte
	// places tell where the ends of names were written, each end once.
	places []place
}

type place struct {
	end string
	at  int
}

// field is a thing that is written into a message.
type field interface {
	writeTo(m *message)
}

type (
	octet      uint8
	short      uint16
	long       uint32
	raw        string
	compressed string
	// sized has how long it is ahead of it.
	sized []field
)

func newMessage() *message {
	return &message{bytes: make([]byte, headerSize)}
}

// written gives the bytes of fields alone, without a header ahead.
func written(fields ...field) string {
	m := &message{}
	m.put(fields...)
	return string(m.bytes)
}

// put writes fields.
func (m *message) put(fields ...field) {
	for _, f := range fields {
		f.writeTo(m)
	}
}

// under gives the whole message, with its header.
func (m *message) under(h header) string {
	fields := []field{short(h.id), short(h.bits)}
	for _, n := range h.counts {
		fields = append(fields, short(n))
	}
	copy(m.bytes, written(fields...))
	return string(m.bytes)
}

func (o octet) writeTo(m *message) {
	m.bytes = append(m.bytes, byte(o))
}

func (s short) writeTo(m *message) {
	m.put(octet(s>>8), octet(s))
}

func (l long) writeTo(m *message) {
	m.put(short(l>>16), short(l))
}

func (r raw) writeTo(m *message) {
	m.bytes = append(m.bytes, r...)
}

func (s sized) writeTo(m *message) {
	m.put(short(0))
	start := len(m.bytes)
	m.put(s...)
	n := len(m.bytes) - start
	m.bytes[start-2], m.bytes[start-1] = byte(n>>8), byte(n)
}

// A name is labels up to the first of its ends that was written already. (One
// that is no text of a zone's, as an asked name may be, stands in the question:
// it is a pointer, so that it is told as it came.)
func (c compressed) writeTo(m *message) {
	for end := range names.Ends(string(c)) {
		if at, ok := m.placeOf(end); ok {
			m.put(short(pointerBits | at))
			return
		}
		m.learn(end, len(m.bytes))
		label := names.First(end)
		m.put(octet(len(label)), raw(label))
	}
	m.put(octet(0))
}

func (m *message) placeOf(end string) (int, bool) {
	for _, p := range m.places {
		if p.end == end {
			return p.at, true
		}
	}
	return 0, false
}

// learn keeps where an end of a name stands, if a pointer reaches there.
func (m *message) learn(end string, at int) {
	if at < maxPlace {
		m.places = append(m.places, place{end, at})
	}
}

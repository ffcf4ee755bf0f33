package beacon

import (
	"slices"
	"strings"
	"testing"

	"beacon/api"
	"beacon/wire"
	"beacon/zone"
)

var zoneText = strings.Join([]string{
	"origin example.org",
	"example.org 300 SOA ns.example.org admin.example.org 7 60",
	"example.org 300 NS ns.example.org",
	"ns.example.org 300 A 192.0.2.1",
	"big.example.org 60 TXT " + strings.Repeat("a", 40),
	"big.example.org 60 TXT " + strings.Repeat("b", 40),
	"web.example.org 60 A 192.0.2.80",
	"",
}, "\n")

const (
	cardMAC  = "\x52\x54\x00\x12\x34\x56"
	otherMAC = "\x52\x54\x00\x65\x43\x21"
	allMACs  = "\xff\xff\xff\xff\xff\xff"
	cardIP   = "\xc0\x00\x02\x35"
	otherIP  = "\xc6\x33\x64\x07"
)

var config = api.Config{MAC: cardMAC, IP: cardIP}

// arpQuestion asks for the card's address; arpAnswer tells it.
const (
	arpQuestion = allMACs + otherMAC + "\x08\x06\x00\x01\x08\x00\x06\x04\x00\x01" +
		otherMAC + otherIP + "\x00\x00\x00\x00\x00\x00" + cardIP
	arpAnswer = otherMAC + cardMAC + "\x08\x06\x00\x01\x08\x00\x06\x04\x00\x02" +
		cardMAC + cardIP + otherMAC + otherIP
)

// frameOf is a frame with a query for an A record of the zone; the ID tells it
// from others. The datagram has no checksum.
func frameOf(id int, label string) string {
	message := two(id) + "\x01\x00\x00\x01\x00\x00\x00\x00\x00\x00" +
		string(rune(len(label))) + label + "\x07example\x03org\x00\x00\x01\x00\x01"
	datagram := two(40000) + two(53) + two(8+len(message)) + two(0) + message
	ahead := "\x45\x00" + two(20+len(datagram)) + "\x00\x00\x00\x00\x40\x11"
	sum := 0
	for i, b := range []byte(ahead + otherIP + cardIP) {
		sum += int(b) << (8 * (1 - i%2))
	}
	return cardMAC + otherMAC + "\x08\x00" + ahead + two(65535-sum%65535) + otherIP + cardIP + datagram
}

func two(n int) string {
	return string([]byte{byte(n >> 8), byte(n)})
}

// handled is what the card sends for a frame.
func handled(t *testing.T, frame string) string {
	t.Helper()
	z, _ := zone.Parse(zoneText)
	s := wire.Handle(z, config, frame)
	if s == "" {
		t.Fatalf("nothing is sent for %q", frame)
	}
	return s
}

// touch is a call of the memory.
type touch struct {
	store bool
	at    int
	b     byte
}

// memory keeps all that is done with it. Machines catch panics, so that calls
// beyond it are counted.
type memory struct {
	bytes  [api.Region]byte
	log    []touch
	beyond int
	// ahead is what others do ahead of a call, behind what they do behind it.
	ahead  func(m *memory)
	behind func(m *memory, last touch)
}

func (m *memory) Load(n int) byte {
	return m.touch(touch{at: n})
}

func (m *memory) Store(n int, b byte) {
	m.touch(touch{store: true, at: n, b: b})
}

func (m *memory) touch(x touch) byte {
	if m.ahead != nil {
		m.ahead(m)
	}
	if x.at < 0 || x.at >= api.Region {
		if m.beyond++; m.beyond > 100 {
			panic("far beyond the memory")
		}
		return 0
	}
	if x.store {
		m.bytes[x.at] = x.b
	} else {
		x.b = m.bytes[x.at]
	}
	m.log = append(m.log, x)
	if m.behind != nil {
		m.behind(m, x)
	}
	return x.b
}

// get and set are what others do: numbers, the lowest byte first.
func (m *memory) get(at, size int) int {
	n := 0
	for i := size - 1; i >= 0; i-- {
		n = n<<8 | int(m.bytes[at+i])
	}
	return n
}

func (m *memory) set(at, size, n int) {
	for i := range size {
		m.bytes[at+i] = byte(n >> (8 * i))
	}
}

// card is one that plays by the rules.
type card struct {
	*memory
	taken, sent int
}

// comes puts a frame into the slot that is next.
func (c *card) comes(frame string) {
	slot := c.get(132+2*(c.taken%8), 2) % 8
	copy(c.bytes[1024+1536*slot:], "header, 12 b"+frame)
	c.uses(c.taken, slot, 12+len(frame))
	c.taken++
	c.set(258, 2, c.taken)
}

// uses writes an entry of the receive ring.
func (c *card) uses(entry, slot, length int) {
	c.set(260+8*(entry%8), 4, slot)
	c.set(264+8*(entry%8), 4, length)
}

// gives writes slots of the send ring back.
func (c *card) gives(slots ...int) {
	for _, slot := range slots {
		c.set(772+8*(c.sent%8), 4, slot)
		c.set(776+8*(c.sent%8), 4, 99999)
		c.sent++
	}
	c.set(770, 2, c.sent)
}

// goesOut is the frame in a slot of the send ring, by its descriptor.
func (c *card) goesOut(slot int) string {
	at := c.get(512+16*slot, 8)
	return string(c.bytes[at+12 : at+c.get(512+16*slot+8, 4)])
}

// start makes a machine. The memory has anything in it but the used indexes,
// which the card begins with.
func start(t *testing.T) (*Machine, *card) {
	t.Helper()
	m := filled()
	b, e := New(zoneText, config, m)
	if b == nil || e != api.OK {
		t.Fatalf("P8: New = %v, %d", b, e)
	}
	m.log = nil
	return b, &card{memory: m}
}

func filled() *memory {
	m := &memory{}
	for i := range m.bytes {
		m.bytes[i] = 0xee
	}
	m.set(258, 2, 0)
	m.set(770, 2, 0)
	return m
}

// polls polls, holds what is told against what is wanted, and gives what was
// done with the memory.
func polls(t *testing.T, b *Machine, m *memory, want api.Errno, counts api.Counts) []touch {
	t.Helper()
	m.log = nil
	if e := b.Poll(); e != want {
		t.Errorf("P9: Poll = %d, want %d", e, want)
	}
	if c := b.Counts(); c != counts {
		t.Errorf("P9: Counts = %+v, want %+v", c, counts)
	}
	if m.beyond > 0 {
		t.Errorf("P7: %d calls are beyond the memory", m.beyond)
	}
	return m.log
}

// loads and stores are touches of bytes side by side; number those that write a
// number.
func loads(at, size int) []touch {
	l := make([]touch, size)
	for i := range l {
		l[i].at = at + i
	}
	return l
}

func stores(at int, bytes string) []touch {
	l := loads(at, len(bytes))
	for i := range l {
		l[i].store, l[i].b = true, bytes[i]
	}
	return l
}

func number(at, size, n int) []touch {
	var b []byte
	for range size {
		b = append(b, byte(n))
		n >>= 8
	}
	return stores(at, string(b))
}

// touches holds what was done against what is wanted, whatever was read.
func touches(t *testing.T, got []touch, want ...[]touch) {
	t.Helper()
	got = slices.Clone(got)
	for i := range got {
		if !got[i].store {
			got[i].b = 0
		}
	}
	all := slices.Concat(want...)
	for i := range min(len(got), len(all)) {
		if got[i] != all[i] {
			t.Fatalf("P9: call %d of the memory is %+v, want %+v", i, got[i], all[i])
		}
	}
	if len(got) != len(all) {
		t.Fatalf("P9: %d calls of the memory, want %d", len(got), len(all))
	}
}

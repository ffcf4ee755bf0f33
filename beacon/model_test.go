package beacon

import (
	"math/rand"
	"strings"
	"testing"

	"beacon/api"
	"beacon/wire"
	"beacon/zone"
)

// model is a machine by the words of P9, step by step, with plain numbers.
type model struct {
	m                            *memory
	z                            *zone.Zone
	sendUsed, receiveUsed        int
	sendIndex, receiveIndex, out int
	free                         [8]bool
	counts                       api.Counts
}

func newModel(m *memory) *model {
	z, _ := zone.Parse(zoneText)
	return &model{m: m, z: z, receiveIndex: 8, free: [8]bool{true, true, true, true, true, true, true, true}}
}

func (d *model) load(at, size int) int {
	n := 0
	for i := range size {
		n += int(d.m.Load(at+i)) << (8 * i)
	}
	return n
}

func (d *model) store(at, size, n int) {
	for ; size > 0; size-- {
		d.m.Store(at, byte(n%256))
		at++
		n /= 256
	}
}

func (d *model) breaks() api.Errno {
	d.counts.Broken = true
	return api.ErrBroken
}

func (d *model) poll() api.Errno {
	if d.counts.Broken {
		return api.ErrBroken
	}
	index := d.load(770, 2)
	if (index+65536-d.sendUsed)%65536 > d.out {
		return d.breaks()
	}
	for ; d.sendUsed != index; d.sendUsed = (d.sendUsed + 1) % 65536 {
		id := d.load(772+d.sendUsed%8*8, 4)
		if id > 7 || d.free[id] {
			return d.breaks()
		}
		d.free[id] = true
		d.out--
	}
	index = d.load(258, 2)
	if (index+65536-d.receiveUsed)%65536 > 8 {
		return d.breaks()
	}
	for ; d.receiveUsed != index; d.receiveUsed = (d.receiveUsed + 1) % 65536 {
		id := d.load(260+d.receiveUsed%8*8, 4)
		length := d.load(264+d.receiveUsed%8*8, 4)
		if id > 7 || length < 12 || length > 1536 {
			return d.breaks()
		}
		d.counts.Received++
		d.receive(id, length)
	}
	return api.OK
}

func (d *model) receive(id, length int) {
	var frame strings.Builder
	for i := 12; i < length; i++ {
		frame.WriteByte(d.m.Load(1024 + 1536*id + i))
	}
	d.store(132+d.receiveIndex%8*2, 2, id)
	d.receiveIndex = (d.receiveIndex + 1) % 65536
	d.store(130, 2, d.receiveIndex)
	if back := wire.Handle(d.z, config, frame.String()); back != "" {
		d.send(back)
	}
}

func (d *model) send(back string) {
	for slot, free := range d.free {
		if !free {
			continue
		}
		for i, b := range []byte(strings.Repeat("\x00", 12) + back) {
			d.m.Store(1024+1536*8+1536*slot+i, b)
		}
		d.store(512+16*slot+8, 4, 12+len(back))
		d.store(644+d.sendIndex%8*2, 2, slot)
		d.sendIndex = (d.sendIndex + 1) % 65536
		d.store(642, 2, d.sendIndex)
		d.free[slot] = false
		d.out++
		d.counts.Sent++
		return
	}
	d.counts.Dropped++
}

// liar is a card that mostly plays by the rules, beside others who write what
// they like while the machine is at work.
type liar struct {
	card
	*rand.Rand
	// often is how many calls of the memory others let pass by, about.
	often int
}

func newLiar(seed int64) *liar {
	l := &liar{card: card{memory: filled()}, Rand: rand.New(rand.NewSource(seed))}
	l.often = []int{1 << 30, 3000, 300, 30}[l.Intn(4)]
	return l
}

var comings = []string{arpQuestion, frameOf(1, "web"), frameOf(2, "none"), "", strings.Repeat("x", 1524), arpQuestion[:41]}

// plays is what the card does ahead of a Poll.
func (l *liar) plays() {
	for range l.Intn(9) {
		l.comes(comings[l.Intn(len(comings))])
	}
	pending := (l.get(642, 2) - l.sent) & 0xffff
	for range l.Intn(1 + min(pending, 8)) {
		l.gives(l.get(644+2*(l.sent%8), 2))
	}
	if l.Intn(20) == 0 {
		l.lies()
	}
}

// lies is one lie, near to what is right.
func (l *liar) lies() {
	near := []int{0, 1, 7, 8, 9, 11, 12, 13, 1535, 1536, 1537, 65535, 65536, 1 << 31, 1<<32 - 1}
	n := near[l.Intn(len(near))]
	switch l.Intn(5) {
	case 0:
		l.set(258, 2, l.taken+l.Intn(20)-8)
	case 1:
		l.set(770, 2, l.sent+l.Intn(20)-8)
	case 2:
		l.set(260+8*l.Intn(8), 4, n)
	case 3:
		l.set(264+8*l.Intn(8), 4, n)
	case 4:
		l.set(772+8*l.Intn(8), 4, n)
	}
}

// meddles writes anything, now and then, mostly into the rings.
func (l *liar) meddles(m *memory) {
	if l.Intn(l.often) > 0 {
		return
	}
	at := l.Intn(1024)
	if l.Intn(3) == 0 {
		at = l.Intn(api.Region)
	}
	m.bytes[at] = byte(l.Intn(256) & l.Intn(256))
}

// TestPollIsAsTheModel: whatever stands in the memory, each call of it is the
// one that P9 says, in its order.
func TestPollIsAsTheModel(t *testing.T) {
	var all api.Counts
	breaks := 0
	for seed := range int64(1000) {
		one, other := newLiar(seed), newLiar(seed)
		b, _ := New(zoneText, config, one.memory)
		New(zoneText, config, other.memory)
		d := newModel(other.memory)
		one.log, other.log = nil, nil
		one.ahead, other.ahead = one.meddles, other.meddles
		for range 12 {
			one.plays()
			other.plays()
			got, want := b.Poll(), d.poll()
			if got != want || b.Counts() != d.counts {
				t.Fatalf("P9: of the liar %d Poll = %d with %+v, want %d with %+v", seed, got, b.Counts(), want, d.counts)
			}
			agree(t, one.memory, other.memory)
		}
		all.Received += d.counts.Received
		all.Sent += d.counts.Sent
		all.Dropped += d.counts.Dropped
		if d.counts.Broken {
			breaks++
		}
	}
	// The liars are of use but if they bring about all that can be.
	if all.Received < 5000 || all.Sent < 2000 || all.Dropped < 100 || breaks < 100 || breaks > 900 {
		t.Errorf("the liars bring about %+v and %d breaks", all, breaks)
	}
}

func agree(t *testing.T, one, other *memory) {
	t.Helper()
	for i := range min(len(one.log), len(other.log)) {
		if one.log[i] != other.log[i] {
			t.Fatalf("P9: call %d of the memory is %+v, want %+v", i, one.log[i], other.log[i])
		}
	}
	if len(one.log) != len(other.log) || one.beyond > 0 {
		t.Fatalf("P7: %d calls of the memory, %d beyond it, want %d", len(one.log), one.beyond, len(other.log))
	}
	one.log, other.log = nil, nil
}

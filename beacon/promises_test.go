package beacon

import (
	"testing"

	"beacon/api"
)

// TestNothingIsReadTwice (P10): what has been read is another thing at once.
func TestNothingIsReadTwice(t *testing.T) {
	b, c := start(t)
	frame := frameOf(9, "web")
	for range 3 {
		c.comes(frame)
	}
	c.behind = func(m *memory, last touch) {
		if !last.store {
			m.bytes[last.at] ^= 0xff
		}
	}
	polls(t, b, c.memory, api.OK, api.Counts{Received: 3, Sent: 3})
	read := map[int]int{}
	for _, x := range c.log {
		if !x.store {
			read[x.at]++
		}
	}
	for at, n := range read {
		if n > 1 {
			t.Errorf("P10: the byte at %d is read %d times", at, n)
		}
	}
	for slot := range 3 {
		if out := c.goesOut(slot); out != handled(t, frame) {
			t.Errorf("P10: sent is %q, want %q", out, handled(t, frame))
		}
	}
}

// TestOwnWordsAreNotTrusted (P10): others write over all that the machine has
// written.
func TestOwnWordsAreNotTrusted(t *testing.T) {
	b, c := start(t)
	c.behind = func(m *memory, last touch) {
		if last.store {
			m.bytes[last.at] ^= 0xff
		}
	}
	for i := range 20 {
		for at := range 256 {
			c.bytes[at], c.bytes[512+at] = 0xaa, 0xaa
		}
		c.uses(i, 5, 12+len(arpQuestion))
		c.set(258, 2, i+1)
		copy(c.bytes[1024+1536*5+12:], arpQuestion)
		touches(t, polls(t, b, c.memory, api.OK, api.Counts{Received: i + 1, Sent: i + 1}),
			loads(770, 2),
			loads(772+8*((i+7)%8), 4*min(i, 1)),
			loads(258, 2),
			receiving(i, 5, arpQuestion),
			sending(i, 0, arpAnswer))
		c.gives(0)
	}
}

// TestWhatTheCardIsHanded (P10): whatever others write, the machine writes none
// but slots into the available rings, none but lengths into descriptors.
func TestWhatTheCardIsHanded(t *testing.T) {
	for seed := range int64(300) {
		l := newLiar(seed)
		b, _ := New(zoneText, config, l.memory)
		l.log = nil
		l.ahead = l.meddles
		for range 12 {
			l.plays()
			b.Poll()
		}
		for _, x := range l.log {
			if x.store && !mayBeWritten(x) {
				t.Fatalf("P10: of the liar %d Poll writes %+v", seed, x)
			}
		}
		if l.beyond > 0 {
			t.Fatalf("P7: of the liar %d %d calls are beyond the memory", seed, l.beyond)
		}
	}
}

func mayBeWritten(x touch) bool {
	base := x.at / 512 * 512
	switch at := x.at - base; {
	case base >= 1024:
		return x.at >= 1024+1536*8
	case at == 130 || at == 131:
		return true
	case at >= 132 && at < 148:
		return at%2 == 0 && x.b < 8 || at%2 == 1 && x.b == 0
	case base == 512 && at < 128:
		return at%16 == 8 || at%16 == 9 && x.b <= 1536/256 || at%16 > 9 && at%16 < 12 && x.b == 0
	}
	return false
}

// TestBrokenStaysBroken (P10): with liars of all kinds.
func TestBrokenStaysBroken(t *testing.T) {
	for seed := range int64(300) {
		l := newLiar(seed)
		b, _ := New(zoneText, config, l.memory)
		l.ahead = l.meddles
		broken := false
		for range 30 {
			l.plays()
			l.log = nil
			e := b.Poll()
			if broken && (e != api.ErrBroken || len(l.log) > 0) {
				t.Fatalf("P10: of the liar %d Poll = %d with %d calls of the memory, and was broken", seed, e, len(l.log))
			}
			broken = e == api.ErrBroken
			if b.Counts().Broken != broken {
				t.Fatalf("P9: of the liar %d Poll = %d, Counts = %+v", seed, e, b.Counts())
			}
		}
	}
}

// failing panics at the call of its number.
type failing struct {
	*memory
	calls, at int
}

func (f *failing) Load(n int) byte {
	f.count()
	return f.memory.Load(n)
}

func (f *failing) Store(n int, b byte) {
	f.count()
	f.memory.Store(n, b)
}

func (f *failing) count() {
	if f.calls++; f.calls > f.at {
		panic("the memory is gone")
	}
}

// TestNothingPanics (P1): neither with a memory that does, nor without one.
func TestNothingPanics(t *testing.T) {
	for at := range 800 {
		c := card{memory: filled()}
		f := &failing{memory: c.memory, at: at}
		b, e := New(zoneText, config, f)
		if b == nil || e != api.OK {
			t.Fatalf("P8: New = %v, %d", b, e)
		}
		laid(c.memory)
		c.comes(arpQuestion)
		for range 3 {
			e = b.Poll()
		}
		if broken := f.calls > at; b.Counts().Broken != broken || (e == api.ErrBroken) != broken {
			t.Errorf("P1: Poll = %d, Counts = %+v with a memory that panics at %d of %d calls", e, b.Counts(), at, f.calls)
		}
		if f.calls > at+1 {
			t.Errorf("P9: the memory is called behind the call %d that panicked", at)
		}
	}
	b, e := New(zoneText, config, nil)
	if b == nil || e != api.OK || b.Poll() != api.ErrBroken || !b.Counts().Broken {
		t.Errorf("P1: without a memory: New = %v, %d", b, e)
	}
	b, _ = New("", config, nil)
	if b.Poll() != api.ErrBroken || b.Counts() != (api.Counts{}) {
		t.Errorf("P1: of no machine Poll = %d, Counts = %+v", b.Poll(), b.Counts())
	}
}

// TestMachinesAreApart (P2): what one has seen the other does not know.
func TestMachinesAreApart(t *testing.T) {
	one, c := start(t)
	other, d := start(t)
	c.comes(arpQuestion)
	polls(t, one, c.memory, api.OK, api.Counts{Received: 1, Sent: 1})
	touches(t, polls(t, other, d.memory, api.OK, api.Counts{}), usedIndexes)
	d.set(258, 2, 9)
	polls(t, other, d.memory, api.ErrBroken, api.Counts{Broken: true})
	c.comes(arpQuestion)
	polls(t, one, c.memory, api.OK, api.Counts{Received: 2, Sent: 2})
}

package beacon

import (
	"slices"
	"strings"
	"testing"

	"beacon/api"
)

// usedIndexes is what every Poll reads that finds nothing.
var usedIndexes = slices.Concat(loads(770, 2), loads(258, 2))

func TestPollFindsNothing(t *testing.T) {
	b, c := start(t)
	for range 3 {
		touches(t, polls(t, b, c.memory, api.OK, api.Counts{}), usedIndexes)
	}
}

func TestPollAnswers(t *testing.T) {
	for _, frame := range []string{arpQuestion, frameOf(7, "web"), frameOf(8, "none")} {
		b, c := start(t)
		c.comes(frame)
		back := handled(t, frame)
		got := polls(t, b, c.memory, api.OK, api.Counts{Received: 1, Sent: 1})
		touches(t, got,
			usedIndexes,
			loads(260, 8),
			loads(1024+12, len(frame)),
			number(132, 2, 0),
			number(130, 2, 9),
			stores(1024+1536*8, strings.Repeat("\x00", 12)+back),
			number(512+8, 4, 12+len(back)),
			number(644, 2, 0),
			number(642, 2, 1))
		if out := c.goesOut(0); out != back {
			t.Errorf("P9: sent is %q, want %q", out, back)
		}
		touches(t, polls(t, b, c.memory, api.OK, api.Counts{Received: 1, Sent: 1}), usedIndexes)
	}
}

func TestPollTellsTheAddress(t *testing.T) {
	b, c := start(t)
	c.comes(arpQuestion)
	b.Poll()
	if out := c.goesOut(0); out != arpAnswer {
		t.Errorf("P9: sent is %q, want %q", out, arpAnswer)
	}
}

func TestPollPassesOver(t *testing.T) {
	b, c := start(t)
	for i, frame := range []string{
		"", "x", "\xee", otherMAC + arpQuestion[6:],
		strings.Repeat("y", 1523), strings.Repeat("z", 1524),
	} {
		c.comes(frame)
		touches(t, polls(t, b, c.memory, api.OK, api.Counts{Received: i + 1}),
			usedIndexes,
			loads(260+8*i, 8),
			loads(1024+1536*i+12, len(frame)),
			number(132+2*i, 2, i),
			number(130, 2, 9+i))
	}
}

func TestPollTakesSlotsAsTheyCome(t *testing.T) {
	b, c := start(t)
	// All slots are out, always: one may even come twice.
	order := []int{7, 0, 3, 3, 6, 6, 6, 1}
	want := slices.Clone(usedIndexes)
	for i, slot := range order {
		c.uses(i, slot, 12+i)
		want = slices.Concat(want, loads(260+8*i, 8), loads(1024+1536*slot+12, i),
			number(132+2*i, 2, slot), number(130, 2, 9+i))
	}
	c.set(258, 2, 8)
	touches(t, polls(t, b, c.memory, api.OK, api.Counts{Received: 8}), want)
}

// sending is what is done to send a frame for the n-th time by a slot.
func sending(n, slot int, frame string) []touch {
	return slices.Concat(
		stores(1024+1536*(8+slot), strings.Repeat("\x00", 12)+frame),
		number(512+16*slot+8, 4, 12+len(frame)),
		number(644+2*(n%8), 2, slot),
		number(642, 2, n+1))
}

// receiving is what is done to receive a frame for the n-th time by a slot.
func receiving(n, slot int, frame string) []touch {
	return slices.Concat(
		loads(260+8*(n%8), 8),
		loads(1024+1536*slot+12, len(frame)),
		number(132+2*(n%8), 2, slot),
		number(130, 2, n+9))
}

func TestPollGoesFrameByFrame(t *testing.T) {
	b, c := start(t)
	want := slices.Clone(usedIndexes)
	for i, label := range []string{"web", "ns", "big", "none"} {
		frame := frameOf(i, label)
		c.comes(frame)
		want = slices.Concat(want, receiving(i, i, frame), sending(i, i, handled(t, frame)))
	}
	touches(t, polls(t, b, c.memory, api.OK, api.Counts{Received: 4, Sent: 4}), want)
}

func TestPollTakesSlotsBack(t *testing.T) {
	b, c := start(t)
	for range 3 {
		c.comes(arpQuestion)
	}
	polls(t, b, c.memory, api.OK, api.Counts{Received: 3, Sent: 3})
	// Of what comes back but the id is read, and it is free for the frames
	// that have come: the least slot first.
	c.gives(2, 0)
	for range 3 {
		c.comes(arpQuestion)
	}
	want := slices.Concat(loads(770, 2), loads(772, 4), loads(780, 4), loads(258, 2))
	for i, slot := range []int{0, 2, 3} {
		want = slices.Concat(want, receiving(3+i, 3+i, arpQuestion), sending(3+i, slot, arpAnswer))
	}
	touches(t, polls(t, b, c.memory, api.OK, api.Counts{Received: 6, Sent: 6}), want)
}

func TestPollDrops(t *testing.T) {
	b, c := start(t)
	for range 8 {
		c.comes(arpQuestion)
	}
	polls(t, b, c.memory, api.OK, api.Counts{Received: 8, Sent: 8})
	c.comes(frameOf(1, "web"))
	c.comes("nothing that is answered")
	c.comes(arpQuestion)
	touches(t, polls(t, b, c.memory, api.OK, api.Counts{Received: 11, Sent: 8, Dropped: 2}),
		usedIndexes,
		receiving(8, 0, frameOf(1, "web")),
		receiving(9, 1, "nothing that is answered"),
		receiving(10, 2, arpQuestion))
	// What comes back while frames are handled is seen by the next Poll.
	c.comes(arpQuestion)
	c.behind = func(m *memory, last touch) {
		if last.at == 771 {
			c.gives(5)
			c.behind = nil
		}
	}
	polls(t, b, c.memory, api.OK, api.Counts{Received: 12, Sent: 8, Dropped: 3})
	c.comes(arpQuestion)
	c.comes(arpQuestion)
	polls(t, b, c.memory, api.OK, api.Counts{Received: 14, Sent: 9, Dropped: 4})
	if slot := c.get(644, 2); slot != 5 {
		t.Errorf("P9: sent by the slot %d, want 5", slot)
	}
}

func TestPollGoesRoundAbout(t *testing.T) {
	b, c := start(t)
	n := 0
	for n < 65536+100 {
		var slots []int
		for i := range 1 + n%7 {
			c.comes(arpQuestion)
			slots = append(slots, i)
		}
		n += len(slots)
		polls(t, b, c.memory, api.OK, api.Counts{Received: n, Sent: n})
		if got := c.get(642, 2); got != n%65536 {
			t.Fatalf("P9: the send ring's index is %d, want %d", got, n%65536)
		}
		if got := c.get(130, 2); got != (n+8)%65536 {
			t.Fatalf("P9: the receive ring's index is %d, want %d", got, (n+8)%65536)
		}
		slices.Reverse(slots)
		c.gives(slots...)
	}
}

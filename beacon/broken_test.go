package beacon

import (
	"slices"
	"strings"
	"testing"

	"beacon/api"
)

// stays holds that a broken machine does nothing any more, even if all is right
// again in the memory.
func stays(t *testing.T, b *Machine, c *card, counts api.Counts) {
	t.Helper()
	for range 2 {
		touches(t, polls(t, b, c.memory, api.ErrBroken, counts))
		c.set(770, 2, 0)
		c.set(258, 2, 0)
	}
}

func TestPollBreaks(t *testing.T) {
	broken := api.Counts{Broken: true}
	entry := slices.Concat(usedIndexes, loads(260, 8))
	for what, x := range map[string]struct {
		lie  func(c *card)
		want []touch
	}{
		"a sent frame that was not":   {func(c *card) { c.gives(0) }, loads(770, 2)},
		"a send index that is back":   {func(c *card) { c.set(770, 2, 65535) }, loads(770, 2)},
		"a send index of 256":         {func(c *card) { c.set(770, 2, 256) }, loads(770, 2)},
		"nine frames":                 {func(c *card) { c.set(258, 2, 9) }, usedIndexes},
		"a receive index of 256":      {func(c *card) { c.set(258, 2, 256) }, usedIndexes},
		"a receive index of 32768":    {func(c *card) { c.set(258, 2, 32768) }, usedIndexes},
		"a receive index that's back": {func(c *card) { c.set(258, 2, 65535) }, usedIndexes},
		"the slot 8":                  {func(c *card) { c.comes(arpQuestion); c.uses(0, 8, 54) }, entry},
		"the slot 256":                {func(c *card) { c.comes(arpQuestion); c.uses(0, 256, 54) }, entry},
		"the slot 65536":              {func(c *card) { c.comes(arpQuestion); c.uses(0, 65536, 54) }, entry},
		"the slot 2147483648":         {func(c *card) { c.comes(arpQuestion); c.uses(0, 1<<31, 54) }, entry},
		"the slot 4294967295":         {func(c *card) { c.comes(arpQuestion); c.uses(0, 1<<32-1, 54) }, entry},
		"no bytes":                    {func(c *card) { c.comes(""); c.uses(0, 0, 0) }, entry},
		"11 bytes":                    {func(c *card) { c.comes(""); c.uses(0, 0, 11) }, entry},
		"1537 bytes":                  {func(c *card) { c.comes(""); c.uses(0, 0, 1537) }, entry},
		"65548 bytes":                 {func(c *card) { c.comes(""); c.uses(0, 0, 65536+12) }, entry},
		"2147483660 bytes":            {func(c *card) { c.comes(""); c.uses(0, 0, 1<<31+12) }, entry},
		"4294967295 bytes":            {func(c *card) { c.comes(""); c.uses(0, 0, 1<<32-1) }, entry},
		"a wrong slot and length":     {func(c *card) { c.comes(""); c.uses(0, 9, 9) }, entry},
	} {
		t.Run(what, func(t *testing.T) {
			b, c := start(t)
			x.lie(c)
			touches(t, polls(t, b, c.memory, api.ErrBroken, broken), x.want)
			stays(t, b, c, broken)
		})
	}
}

func TestPollTakesTheEdges(t *testing.T) {
	b, c := start(t)
	for _, frame := range []string{"", strings.Repeat("x", 1524)} {
		for range 4 {
			c.comes(frame)
		}
	}
	polls(t, b, c.memory, api.OK, api.Counts{Received: 8})
	for range 8 {
		c.comes(arpQuestion)
	}
	polls(t, b, c.memory, api.OK, api.Counts{Received: 16, Sent: 8})
	c.gives(7, 6, 5, 4, 3, 2, 1, 0)
	polls(t, b, c.memory, api.OK, api.Counts{Received: 16, Sent: 8})
}

// TestPollBreaksBySlots: what comes back was not out.
func TestPollBreaksBySlots(t *testing.T) {
	for what, x := range map[string]struct {
		back []int
		read int
	}{
		"one that is free":     {[]int{2}, 1},
		"the first twice":      {[]int{0, 0}, 2},
		"the last twice":       {[]int{1, 1}, 2},
		"the slot 8":           {[]int{8}, 1},
		"the slot 8 behind 1":  {[]int{1, 8}, 2},
		"the slot 256":         {[]int{256}, 1},
		"the slot 4294967295":  {[]int{1<<32 - 1}, 1},
		"three of two":         {[]int{0, 1, 2}, 0},
		"nine of two":          {[]int{0, 1, 2, 3, 4, 5, 6, 7, 8}, 0},
		"the slot 65536":       {[]int{65536}, 1},
		"the slot 0 behind 16": {[]int{16, 0}, 1},
	} {
		t.Run(what, func(t *testing.T) {
			b, c := start(t)
			c.comes(arpQuestion)
			c.comes(arpQuestion)
			polls(t, b, c.memory, api.OK, api.Counts{Received: 2, Sent: 2})
			c.comes(arpQuestion)
			c.gives(x.back...)
			want := loads(770, 2)
			for i := range x.read {
				want = slices.Concat(want, loads(772+8*i, 4))
			}
			counts := api.Counts{Received: 2, Sent: 2, Broken: true}
			touches(t, polls(t, b, c.memory, api.ErrBroken, counts), want)
			stays(t, b, c, counts)
		})
	}
}

// TestPollAllowsWhatIsOut: it is as many slots as are out now, not as ever were.
func TestPollAllowsWhatIsOut(t *testing.T) {
	b, c := start(t)
	for range 8 {
		c.comes(arpQuestion)
	}
	polls(t, b, c.memory, api.OK, api.Counts{Received: 8, Sent: 8})
	c.gives(0, 1, 2, 3, 4)
	polls(t, b, c.memory, api.OK, api.Counts{Received: 8, Sent: 8})
	c.gives(5, 6, 7, 7)
	counts := api.Counts{Received: 8, Sent: 8, Broken: true}
	touches(t, polls(t, b, c.memory, api.ErrBroken, counts), loads(770, 2))
}

func TestPollBreaksMidway(t *testing.T) {
	b, c := start(t)
	for range 4 {
		c.comes(arpQuestion)
	}
	c.uses(2, 2, 5000)
	counts := api.Counts{Received: 2, Sent: 2, Broken: true}
	touches(t, polls(t, b, c.memory, api.ErrBroken, counts),
		usedIndexes,
		receiving(0, 0, arpQuestion), sending(0, 0, arpAnswer),
		receiving(1, 1, arpQuestion), sending(1, 1, arpAnswer),
		loads(260+16, 8))
	stays(t, b, c, counts)
}

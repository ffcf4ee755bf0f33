package rings

import (
	"slices"
	"testing"

	"beacon/api"
)

// plain is a memory that nobody else writes into but the test.
type plain [api.Region]byte

func (p *plain) Load(n int) byte {
	return p[n]
}

func (p *plain) Store(n int, b byte) {
	p[n] = b
}

// brings puts frames of one byte into the slots, each into that of its number.
func (p *plain) brings(frames string) {
	for slot, b := range []byte(frames) {
		p[receiveBuffers+api.Buffer*slot+headerSize] = b
		p[usedEntries+usedEntrySize*slot] = byte(slot)
		p[usedEntries+usedEntrySize*slot+usedEntryLength] = headerSize + 1
	}
	p[usedIndex] = byte(len(frames))
}

// TestFramesGoOn: who stops on the way finds the rest the next time (P9).
func TestFramesGoOn(t *testing.T) {
	p := &plain{}
	r, _ := Lay(p)
	p.brings("abcde")
	for _, want := range []string{"ab", "c", "de"} {
		got := ""
		for frame, ok := range r.Frames() {
			if !ok {
				t.Fatal("P9: a lie is seen where there is none")
			}
			if got += frame; len(got) == len(want) {
				break
			}
		}
		if got != want {
			t.Errorf("P9: the frames are %q, want %q", got, want)
		}
	}
}

// TestFramesEndAtALie: behind it nothing is told (P9).
func TestFramesEndAtALie(t *testing.T) {
	p := &plain{}
	r, _ := Lay(p)
	p.brings("abcde")
	p[usedEntries+usedEntrySize*2] = api.Slots
	var frames []string
	var right []bool
	for frame, ok := range r.Frames() {
		frames, right = append(frames, frame), append(right, ok)
	}
	if !slices.Equal(frames, []string{"a", "b", ""}) || !slices.Equal(right, []bool{true, true, false}) {
		t.Errorf("P9: the frames are %q, %v", frames, right)
	}
}

// TestSendTakesTheLeastSlot: and none, if none is free (P9).
func TestSendTakesTheLeastSlot(t *testing.T) {
	p := &plain{}
	_, s := Lay(p)
	for slot := range api.Slots {
		if !s.Send("x") || p[sendBase+availableEntries+availableEntrySize*slot] != byte(slot) {
			t.Errorf("P9: the slot %d is not sent by", slot)
		}
	}
	if s.Send("x") {
		t.Error("P9: it is sent, and no slot is free")
	}
	p[sendBase+usedEntries] = 3
	p[sendBase+usedIndex] = 1
	if !s.Reclaim() || !s.Send("x") || p[sendBase+availableEntries] != 3 {
		t.Error("P9: the slot 3 is free again, and is not sent by")
	}
	if !s.Reclaim() || s.Send("x") {
		t.Error("P9: it is sent, and nothing came back")
	}
}

package beacon

import (
	"slices"
	"strings"
	"testing"

	"beacon/api"
)

func TestNewRefuses(t *testing.T) {
	for _, x := range []struct {
		text, mac, ip string
		want          api.Errno
	}{
		{"", cardMAC, cardIP, api.ErrZone},
		{"", "", "", api.ErrZone},
		{zoneText[:len(zoneText)-1], cardMAC, cardIP, api.ErrZone},
		{zoneText + "x\n", "", cardIP, api.ErrZone},
		{strings.Repeat("x", 4000), cardMAC, cardIP, api.ErrZone},
		{zoneText, "", "", api.ErrConfig},
		{zoneText, "", cardIP, api.ErrConfig},
		{zoneText, cardMAC[:5], cardIP, api.ErrConfig},
		{zoneText, cardMAC + "\x00", cardIP, api.ErrConfig},
		{zoneText, "\x01\x00\x5e\x00\x00\x01", cardIP, api.ErrConfig},
		{zoneText, "\x53" + cardMAC[1:], cardIP, api.ErrConfig},
		{zoneText, allMACs, cardIP, api.ErrConfig},
		{zoneText, cardMAC, "", api.ErrConfig},
		{zoneText, cardMAC, cardIP[:3], api.ErrConfig},
		{zoneText, cardMAC, cardIP + "\x00", api.ErrConfig},
		{zoneText, cardIP, cardMAC, api.ErrConfig},
	} {
		m := filled()
		b, e := New(x.text, api.Config{MAC: x.mac, IP: x.ip}, m)
		if b != nil || e != x.want {
			t.Errorf("P8: New of %q, %q, %q = %v, %d, want %d", x.text, x.mac, x.ip, b, e, x.want)
		}
		if len(m.log) > 0 || m.beyond > 0 {
			t.Errorf("P8: New with the error %d has touched the memory", e)
		}
	}
}

func TestNewTakes(t *testing.T) {
	for _, c := range []api.Config{
		config,
		{MAC: "\x00\x00\x00\x00\x00\x00", IP: "\x00\x00\x00\x00"},
		{MAC: "\xfe\xff\xff\xff\xff\xff", IP: "\xff\xff\xff\xff"},
		{MAC: "\x02\x01\x01\x01\x01\x01", IP: "\x01\x01\x01\x01"},
	} {
		b, e := New(zoneText, c, filled())
		if b == nil || e != api.OK {
			t.Fatalf("P8: New with %q = %v, %d", c, b, e)
		}
		if n := b.Counts(); n != (api.Counts{}) {
			t.Errorf("P9: Counts of a new machine = %+v", n)
		}
	}
}

// laid is what New leaves in a memory.
func laid(m *memory) {
	for i := range 8 {
		for _, x := range []struct{ base, buffer, flags int }{
			{0, 1024 + 1536*i, 2},
			{512, 1024 + 1536*(8+i), 0},
		} {
			m.set(x.base+16*i, 8, x.buffer)
			m.set(x.base+16*i+8, 4, 1536)
			m.set(x.base+16*i+12, 2, x.flags)
			m.set(x.base+16*i+14, 2, 0)
		}
		m.set(128+4+2*i, 2, i)
	}
	m.set(128+2, 2, 8)
	m.set(512+128+2, 2, 0)
}

func TestNewWrites(t *testing.T) {
	for _, fill := range []byte{0, 0xee, 0xff} {
		m, want := &memory{}, &memory{}
		for i := range m.bytes {
			m.bytes[i], want.bytes[i] = fill, fill
		}
		if _, e := New(zoneText, config, m); e != api.OK {
			t.Fatalf("P8: New = %d", e)
		}
		laid(want)
		for i := range m.bytes {
			if m.bytes[i] != want.bytes[i] {
				t.Errorf("P8: the byte at %d is %d, want %d", i, m.bytes[i], want.bytes[i])
			}
		}
	}
}

func TestNewWritesOnceAndReadsNothing(t *testing.T) {
	m := filled()
	New(zoneText, config, m)
	var places []int
	for _, x := range m.log {
		if !x.store {
			t.Errorf("P8: New reads the byte at %d", x.at)
		}
		places = append(places, x.at)
	}
	slices.Sort(places)
	// Two rings of eight descriptors, two indexes, eight entries.
	if n := len(slices.Compact(places)); n != 2*8*16+2*2+8*2 || n != len(m.log) {
		t.Errorf("P8: New writes %d places in %d calls", n, len(m.log))
	}
	if m.beyond > 0 {
		t.Errorf("P7: %d calls are beyond the memory", m.beyond)
	}
}

func TestNewWritesIndexesLast(t *testing.T) {
	m := filled()
	New(zoneText, config, m)
	for _, base := range []int{0, 512} {
		var ring []int
		for _, x := range m.log {
			if x.at >= base && x.at < base+512 {
				ring = append(ring, x.at)
			}
		}
		if last := ring[len(ring)-2:]; !slices.Equal(last, []int{base + 130, base + 131}) {
			t.Errorf("P8: of the ring at %d the bytes at %d are written last", base, last)
		}
	}
}

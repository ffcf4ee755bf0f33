package wire

import (
	"strings"
	"testing"

	"beacon/api"
)

// The bytes of records of each type.
func TestRecords(t *testing.T) {
	word := strings.Repeat("!~", 20)
	z := mustParse(t, lines("origin zz", "zz 86400 SOA a.b.zz other 4294967295 86400", "zz 0 NS n.y",
		"a.zz 86399 A 255.0.1.128", "a.zz 256 TXT x", "t.zz 65536 TXT "+word, "m.zz 1 MX 65535 n.y", "m.zz 1 MX 0 m.zz", "c.zz 1 CNAME c.n.y"))
	for _, c := range []struct {
		name    string
		kind    int
		records string // behind the question, up to an end
	}{
		// The question's zz is at 12, the SOA's data has 6, 7 and 20 bytes.
		{"zz", api.SOA, "\xc0\x0c\x00\x06\x00\x01\x00\x01\x51\x80\x00\x21" + "\x01a\x01b\xc0\x0c" + "\x05other\x00" + "\xff\xff\xff\xff\x00\x00\x0e\x10\x00\x00\x02\x58\x00\x01\x51\x80\x00\x01\x51\x80"},
		{"zz", api.NS, "\xc0\x0c\x00\x02\x00\x01\x00\x00\x00\x00\x00\x05\x01n\x01y\x00"},
		{"a.zz", api.A, "\xc0\x0c\x00\x01\x00\x01\x00\x01\x51\x7f\x00\x04\xff\x00\x01\x80"},
		{"a.zz", api.TXT, "\xc0\x0c\x00\x10\x00\x01\x00\x00\x01\x00\x00\x02\x01x"},
		{"t.zz", api.TXT, "\xc0\x0c\x00\x10\x00\x01\x00\x01\x00\x00\x00\x29\x28" + word},
		{"m.zz", api.MX, "\xc0\x0c\x00\x0f\x00\x01\x00\x00\x00\x01\x00\x07\xff\xff\x01n\x01y\x00" + "\xc0\x0c\x00\x0f\x00\x01\x00\x00\x00\x01\x00\x04\x00\x00\xc0\x0c"},
		{"c.zz", api.CNAME, "\xc0\x0c\x00\x05\x00\x01\x00\x00\x00\x01\x00\x07\x01c\x01n\x01y\x00"},
	} {
		got := Reply(z, ask(named(c.name), c.kind))
		if from := 12 + len(question(named(c.name), c.kind)); got[from:] != c.records {
			t.Errorf("P5: %s, type %d: %q, want %q", c.name, c.kind, got[from:], c.records)
		}
	}
}

// A SOA in the authority has the smaller TTL, and its minimum as it is.
func TestDenial(t *testing.T) {
	for _, c := range []struct{ ttl, minimum, want string }{
		{"300", "60", "\x00\x00\x00\x3c"}, {"60", "300", "\x00\x00\x00\x3c"}, {"0", "86400", "\x00\x00\x00\x00"}, {"86400", "65536", "\x00\x01\x00\x00"},
	} {
		z := mustParse(t, lines("origin zz", "zz "+c.ttl+" SOA zz zz 1 "+c.minimum, "zz 1 NS a"))
		q := question(named("x.zz"), api.A)
		whole := Reply(z, ask(named("zz"), api.SOA))
		minimum := whole[len(whole)-4:]
		replies(t, z, head(7, 0, 1, 0, 0, 0)+q, head(7, 0x8403, 1, 0, 1, 0)+q+
			"\xc0\x0e\x00\x06\x00\x01"+c.want+"\x00\x18\xc0\x0e\xc0\x0e\x00\x00\x00\x01\x00\x00\x0e\x10\x00\x00\x02\x58\x00\x01\x51\x80"+minimum)
	}
}

// Pointers lead to the first place of the longest end that was written.
func TestPointers(t *testing.T) {
	z := mustParse(t, lines("origin b.zz", "b.zz 1 SOA a.b.zz zz.b.zz 1 1", "b.zz 1 NS x.a.b.zz", "b.zz 1 NS c.zz", "b.zz 1 NS x.c.zz", "b.zz 1 NS zz", "b.zz 1 NS b.c", "b.zz 1 NS c", "a.b.zz 1 A 1.1.1.1", "x.a.b.zz 1 A 1.1.1.2"))
	ns := func(data string) string {
		return "\xc0\x0c\x00\x02\x00\x01\x00\x00\x00\x01" + two(len(data)) + data
	}
	// b.zz is at 12, zz at 14; the first record is at 22, its data at 34.
	q := question(labels("B", "zZ"), api.NS)
	replies(t, z, head(7, 0, 1, 0, 0, 0)+q, head(7, 0x8400, 1, 6, 0, 1)+q+
		ns("\x01x\x01a\xc0\x0c")+ // 34 to 39: x.a.b.zz
		ns("\x01c\xc0\x0e")+ // 52 to 55: c.zz
		ns("\x01x\xc0\x34")+ // 68 to 71: x.c.zz
		ns("\xc0\x0e")+ // 84 to 85: zz
		ns("\x01b\x01c\x00")+ // 98 to 102: b.c, and c at 100
		ns("\xc0\x64")+ // c
		"\xc0\x22\x00\x01\x00\x01\x00\x00\x00\x01\x00\x04\x01\x01\x01\x02")
	// Every end of a SOA's names counts, too.
	q = question(named("b.zz"), api.Any)
	got := Reply(z, head(7, 0, 1, 0, 0, 0)+q)
	if _, err := decode(got); err != nil {
		t.Error(err)
	}
}

// Behind 16383 no pointer reaches, so that names are written out again.
func TestFarPlaces(t *testing.T) {
	for _, c := range []struct {
		behind int
		want   string
	}{
		// a.b is at that place, b two bytes behind it.
		{16381, "\x01a\x01b\x00" + "\xff\xfd"},
		{16382, "\x01a\x01b\x00" + "\xff\xfe"},
		{16383, "\x01a\x01b\x00" + "\xff\xff"},
		{16384, "\x01a\x01b\x00" + "\x01a\x01b\x00"},
	} {
		m := &message{bytes: make([]byte, c.behind)}
		m.put(compressed("a.b"), compressed("a.b"))
		if got := string(m.bytes[c.behind:]); got != c.want {
			t.Errorf("P5: at %d: %q, want %q", c.behind, got, c.want)
		}
	}
	m := &message{bytes: make([]byte, 16382)}
	m.put(compressed("a.b"), compressed("b"), compressed("c.b"), compressed(""))
	if got, want := string(m.bytes[16382:]), "\x01a\x01b\x00"+"\x01b\x00"+"\x01c\x01b\x00"+"\x00"; got != want {
		t.Errorf("P5: %q, want %q", got, want)
	}
}

package zone

import (
	"strconv"
	"strings"
	"testing"

	"beacon/api"
)

func refused(t *testing.T, text string) {
	t.Helper()
	if z, e := Parse(text); z != nil || e != api.ErrZone {
		t.Errorf("P3, P1: Parse(%q) = %v, %d, want nil, ErrZone", text, z, e)
	}
}

func TestParseRight(t *testing.T) {
	mustParse(t, example)
	mustParse(t, head)
	for _, l := range []string{
		"a.zz 0 A 0.0.0.0", "a.zz 86400 A 255.255.255.255", "a.zz 1 A 10.0.100.9",
		"a.zz 1 TXT !", "a.zz 1 TXT " + strings.Repeat("~", 40), "a.zz 1 TXT *", "a.zz 1 TXT A",
		"a.zz 1 MX 0 b", "a.zz 1 MX 65535 zz", "a.zz 1 CNAME far.away", "a.zz 1 NS b",
		"*.zz 1 TXT t", "*.zz 1 CNAME zz", "*.a.zz 1 MX 1 zz", "zz 1 TXT t", "zz 5 NS b", "zz.zz 1 A 1.1.1.1",
		strings.Repeat("a", 20) + ".zz 1 TXT t", strings.Repeat("a.", 29) + "zz 1 TXT t", "*." + strings.Repeat("a.", 28) + "zz 1 TXT t",
		lines("a.zz 1 A 1.1.1.1", "b.zz 1 A 1.1.1.1", "a.zz 1 A 1.1.1.2") + "a.zz 2 TXT t",
		lines("a.zz 1 MX 1 b", "a.zz 1 MX 1 c") + "a.zz 1 MX 2 b",
		lines("g.c.zz 1 A 1.1.1.1", "c.zz 1 NS g.c.zz", "c.zz 1 NS h.c.zz", "h.g.c.zz 1 A 1.1.1.2") + "cc.zz 1 TXT t",
	} {
		mustParse(t, head+l+"\n")
	}
	mustParse(t, lines("origin a.b", "a.b 0 SOA x y 0 0", "a.b 0 NS x"))
	mustParse(t, lines("origin a.b", "a.b 86400 SOA x y 4294967295 86400", "x.a.b 1 TXT t", "a.b 0 NS x"))
}

// What is wrong in a line by itself.
func TestParseWrongLines(t *testing.T) {
	for _, l := range []string{
		"", " ", "a.zz", "a.zz 1", "a.zz 1 A", "a.zz 1 A ", "a.zz 1 A 1.1.1.1 ", " a.zz 1 A 1.1.1.1", "a.zz  1 A 1.1.1.1", "a.zz 1  A 1.1.1.1",
		"a.zz 1 A  1.1.1.1", "a.zz\t1 A 1.1.1.1", "a.zz 1 A 1.1.1.1\r", "a.zz 1 A 1.1.1.1 x", "origin zz", "origin a.zz",
		"A.zz 1 A 1.1.1.1", "a..zz 1 A 1.1.1.1", ".zz 1 A 1.1.1.1", "a.zz. 1 A 1.1.1.1", "a.*.zz 1 A 1.1.1.1", "*a.zz 1 A 1.1.1.1",
		strings.Repeat("a", 21) + ".zz 1 A 1.1.1.1", strings.Repeat("a.", 28) + "bbb.zz 1 A 1.1.1.1",
		"a.zz 86401 A 1.1.1.1", "a.zz -1 A 1.1.1.1", "a.zz +1 A 1.1.1.1", "a.zz 01 A 1.1.1.1", "a.zz 00 A 1.1.1.1", "a.zz 1x A 1.1.1.1",
		"a.zz 18446744073709551617 A 1.1.1.1", "a.zz 0x1 A 1.1.1.1",
		"a.zz 1 a 1.1.1.1", "a.zz 1 AAAA 1.1.1.1", "a.zz 1 1 1.1.1.1", "a.zz 1 ANY 1.1.1.1",
		"a.zz 1 A 1.1.1", "a.zz 1 A 1.1.1.1.1", "a.zz 1 A 1.1.1.256", "a.zz 1 A 256.1.1.1", "a.zz 1 A 1.01.1.1", "a.zz 1 A 1..1.1", "a.zz 1 A 1.1.1.", "a.zz 1 A a.b.c.d",
		"a.zz 1 NS", "a.zz 1 NS B", "a.zz 1 NS *.zz", "a.zz 1 NS b c", "a.zz 1 NS b.",
		"a.zz 1 CNAME", "a.zz 1 CNAME *", "a.zz 1 CNAME *.zz", "a.zz 1 CNAME b c", "a.zz 1 CNAME " + strings.Repeat("a.", 30) + "b",
		"a.zz 1 TXT", "a.zz 1 TXT ", "a.zz 1 TXT a b", "a.zz 1 TXT a ", "a.zz 1 TXT " + strings.Repeat("a", 41), "a.zz 1 TXT \x7f", "a.zz 1 TXT \x1f", "a.zz 1 TXT \xff",
		"a.zz 1 MX", "a.zz 1 MX 1", "a.zz 1 MX b", "a.zz 1 MX b 1", "a.zz 1 MX 65536 b", "a.zz 1 MX 01 b", "a.zz 1 MX 1 *.b", "a.zz 1 MX 1 b c", "a.zz 1 MX -1 b",
	} {
		refused(t, head+l+"\n")
	}
	for _, data := range []string{"", "x y 1", "x y 1 1 1", "x y 4294967296 1", "x y 1 86401", "x y 01 1", "x y 1 01", "* y 1 1", "x *.y 1 1", "X y 1 1", "x y a 1", "x y 1 -1"} {
		refused(t, lines("origin zz", "zz 1 SOA "+data, "zz 1 NS x"))
	}
}

// What is wrong among lines that are right each by itself.
func TestParseWrongZones(t *testing.T) {
	for _, l := range [][]string{
		{"a 1 TXT t"}, {"azz 1 TXT t"}, {"a.other 1 TXT t"}, {"* 1 TXT t"}, {"zz.a 1 TXT t"},
		{"zz 9 SOA a.zz b.zz 1 20"}, {"zz 9 SOA a.zz b.zz 2 20"}, {"a.zz 9 SOA a.zz b.zz 1 20"},
		{"zz 5 NS n.zz"}, {"a.zz 1 TXT t", "b.zz 1 TXT t", "a.zz 1 TXT t"}, {"a.zz 1 TXT t", "a.zz 2 TXT t"},
		{"a.zz 1 A 1.1.1.1", "b.zz 1 TXT t", "a.zz 2 A 1.1.1.2"}, {"zz 6 NS b"},
		{"a.zz 1 CNAME b", "a.zz 1 TXT t"}, {"a.zz 1 TXT t", "b.zz 1 TXT t", "a.zz 1 CNAME b"}, {"a.zz 1 CNAME b", "a.zz 1 CNAME c"}, {"a.zz 1 CNAME b", "a.zz 1 NS c"},
		{"zz 1 CNAME b"}, {"*.zz 1 CNAME b", "*.zz 1 TXT t"},
		{"c.zz 1 NS n", "c.zz 1 A 1.1.1.1"}, {"c.zz 1 TXT t", "c.zz 1 NS n"}, {"c.zz 1 MX 1 n", "c.zz 1 NS n"}, {"*.zz 1 NS n"}, {"*.c.zz 1 NS n"},
		{"c.zz 1 NS n", "g.c.zz 1 TXT t"}, {"g.c.zz 1 A 1.1.1.1", "g.c.zz 1 TXT t", "c.zz 1 NS n"}, {"h.g.c.zz 1 MX 1 n", "c.zz 1 NS n"}, {"c.zz 1 NS n", "g.c.zz 1 CNAME n"},
		{"c.zz 1 NS n", "d.c.zz 1 NS n"}, {"e.d.c.zz 1 NS n", "c.zz 1 NS n"}, {"c.zz 1 NS n", "*.c.zz 1 A 1.1.1.1"}, {"*.g.c.zz 1 A 1.1.1.1", "c.zz 1 NS n"},
	} {
		refused(t, head+lines(l...))
	}
	const soa, ns = "zz 9 SOA a.zz b.zz 1 20", "zz 5 NS n.zz"
	for _, text := range []string{
		"", "\n", "origin zz", "origin zz\n", head + "\n", "\n" + head, strings.TrimSuffix(head, "\n"), strings.ReplaceAll(head, "\n", "\r\n"), head + "\x00",
		lines("origin zz", soa), lines("origin zz", ns), lines("origin zz", ns, soa), lines(soa, ns), lines("origin zz", "origin zz", soa, ns),
		lines("origin zz", soa, "a.zz 5 NS n.zz"), lines("origin zz", "a.zz 5 SOA a.zz b.zz 1 20", ns), lines("origin zz", "a.zz 1 TXT t", soa, ns),
		lines("origin", soa, ns), lines("origin ", soa, ns), lines("origin zz ", soa, ns), lines("origin  zz", soa, ns), lines(" origin zz", soa, ns),
		lines("origin zz zz", soa, ns), lines("Origin zz", soa, ns), lines("zz", soa, ns), lines("origin *", soa, ns), lines("origin z", soa, ns), lines("origin ZZ", soa, ns),
		lines("origin *.zz", "*.zz 9 SOA a.zz b.zz 1 20", "*.zz 5 NS n.zz"), lines("origin zz.", soa, ns),
	} {
		refused(t, text)
	}
}

func TestParseLimits(t *testing.T) {
	text := head
	for i := range api.MaxRecords - 2 {
		text += "zz 1 A 1.1.1." + strconv.Itoa(i) + "\n"
	}
	mustParse(t, text)
	refused(t, text+"a.zz 1 A 1.1.1.1\n")

	text = head
	for i := range 57 {
		text += "zz 1 TXT " + strings.Repeat("x", 38) + strconv.Itoa(10+i) + "\n"
	}
	const rest = " 1 TXT 7890123456789012345678901234567890123456\n"
	for size := api.MaxZone - 1; size <= api.MaxZone+1; size++ {
		full := text + nameOf(size-len(text)-len(rest)) + rest
		if len(full) != size {
			t.Fatalf("the text has %d bytes", len(full))
		}
		if size > api.MaxZone {
			refused(t, full)
			continue
		}
		mustParse(t, full)
	}
}

// nameOf gives a name of so many bytes under zz.
func nameOf(size int) string {
	return strings.Repeat("a", size%2) + strings.Repeat("a.", size/2-1) + "zz"
}

package wire

import (
	"slices"
	"strings"
	"testing"

	"beacon/api"
)

// Example 4 of the document.
func TestExample(t *testing.T) {
	z := mustParse(t, example)
	query := "\x00\x01\x01\x00\x00\x01\x00\x00\x00\x00\x00\x00\x03web\x07example\x03org\x00\x00\x01\x00\x01"
	want := "\x00\x01\x85\x00\x00\x01\x00\x01\x00\x00\x00\x00" + query[12:] + "\xc0\x0c\x00\x01\x00\x01\x00\x00\x00\x3c\x00\x04\xc0\x00\x02\x50"
	if len(query) != 33 || len(want) != 49 {
		t.Fatal("the example is not as in the document")
	}
	replies(t, z, query, want)
}

func TestNoReply(t *testing.T) {
	z := mustParse(t, example)
	good := ask(named("web.example.org"), api.A)
	for n := range 12 {
		replies(t, z, good[:n], "")
		replies(t, z, strings.Repeat("\xff", n), "")
	}
	// A reply is not replied to, whatever else it is.
	for bits := 0x8000; bits < 0x10000; bits += 0xff {
		replies(t, z, head(7, bits, 1, 0, 0, 0)+good[12:], "")
		replies(t, z, head(7, bits, 0, 0, 0, 0), "")
	}
}

func TestNotImp(t *testing.T) {
	z := mustParse(t, example)
	for opcode := 1; opcode < 16; opcode++ {
		for _, behind := range []string{question(named("web.example.org"), api.A), "", "\xff"} {
			replies(t, z, head(0xfedc, opcode<<11, 1, 0, 0, 0)+behind, head(0xfedc, 0x8004|opcode<<11, 0, 0, 0, 0))
			replies(t, z, head(0xfedc, opcode<<11|0x7ff, 1, 0, 0, 0)+behind, head(0xfedc, 0x8104|opcode<<11, 0, 0, 0, 0))
		}
		replies(t, z, head(1, opcode<<11, 1, 0, 0, 1)+question(named("a"), api.A)+opt(512, "\x00\x01\x00\x00", ""), head(1, 0x8004|opcode<<11, 0, 0, 0, 0))
	}
}

func TestFormErr(t *testing.T) {
	z := mustParse(t, example)
	bad := head(7, 0x8001, 0, 0, 0, 0)
	q := question(named("web.example.org"), api.A)
	o := opt(1232, noTTL, "data")
	for _, message := range []string{ask(named("web.example.org"), api.A), head(7, 0, 1, 0, 0, 1) + q + o} {
		// Ended at any place, or with something behind.
		for n := 12; n < len(message); n++ {
			replies(t, z, message[:n], bad)
		}
		replies(t, z, message+"\x00", bad)
		replies(t, z, message+o, bad)
	}
	for _, counts := range [][]int{
		{0, 0, 0, 0}, {2, 0, 0, 0}, {257, 0, 0, 0}, {1, 1, 0, 0}, {1, 256, 0, 0}, {1, 0, 1, 0}, {1, 0, 256, 0}, {1, 0, 0, 2}, {1, 0, 0, 257}, {0, 0, 0, 1}, {0, 1, 0, 0}, {65535, 65535, 65535, 65535},
	} {
		replies(t, z, head(7, 0, counts...)+q, bad)
		replies(t, z, head(7, 0, counts...)+q+o, bad)
		replies(t, z, head(7, 0, counts...)+q+q, bad)
		replies(t, z, head(7, 0, counts...)+q+o+o, bad)
		replies(t, z, head(7, 0, counts...), bad)
	}
	// A count that tells of no OPT, or of one that is not there.
	replies(t, z, head(7, 0, 1, 0, 0, 0)+q+o, bad)
	replies(t, z, head(7, 0, 1, 0, 0, 1)+q, bad)
	// A record behind that is no OPT.
	for _, record := range []string{
		"\x01a" + o, "\xc0\x0c" + o[1:], "\x01" + o[1:], "\x00\x00\x28" + o[3:], "\x00\x00\x2a" + o[3:], "\x00\x01\x29" + o[3:], "\x00\x29\x00" + o[3:],
		o[:10] + "\x05data", o[:10] + "\x03data", o[:9] + "\x01\x04data",
	} {
		replies(t, z, head(7, 0, 1, 0, 0, 1)+q+record, bad)
	}
	// It keeps RD and the ID, and nothing else.
	replies(t, z, head(0xffff, 0x07ff, 0, 0, 0, 0), head(0xffff, 0x8101, 0, 0, 0, 0))
}

// Names of questions: what labels they may have.
func TestQuestionNames(t *testing.T) {
	z := mustParse(t, example)
	bad := head(7, 0x8001, 0, 0, 0, 0)
	for first := 64; first < 256; first++ {
		label := string([]byte{byte(first)}) + strings.Repeat("l", first)
		replies(t, z, ask(label+"\x00", api.A), bad)
		replies(t, z, ask("\x03web"+label+"\x00", api.A), bad)
		replies(t, z, ask(string([]byte{byte(first), 12}), api.A), bad)
		replies(t, z, ask("\x03web"+string([]byte{byte(first), 12}), api.A), bad)
	}
	long := strings.Repeat("\x3f"+strings.Repeat("l", 63), 3)
	for n := 1; n < 63; n++ {
		name := long + labels(strings.Repeat("m", n))
		want := head(7, 0x8005, 1, 0, 0, 0) + question(name, api.A)
		if len(name) > 255 {
			want = bad
		}
		replies(t, z, ask(name, api.A), want)
	}
	many := strings.Repeat("\x01m", 127) + "\x00"
	replies(t, z, ask(many, api.A), head(7, 0x8005, 1, 0, 0, 0)+question(many, api.A))
	replies(t, z, ask("\x01m"+many, api.A), bad)
	// The empty name is one, but under no origin.
	replies(t, z, ask("\x00", api.NS), head(7, 0x8005, 1, 0, 0, 0)+question("\x00", api.NS))
}

func TestRefused(t *testing.T) {
	z := mustParse(t, example)
	name := named("web.example.org")
	refused := func(q string) {
		t.Helper()
		replies(t, z, head(7, 0x100, 1, 0, 0, 0)+q, head(7, 0x8105, 1, 0, 0, 0)+q)
		replies(t, z, head(7, 0, 1, 0, 0, 1)+q+opt(1232, noTTL, "data"), head(7, 0x8005, 1, 0, 0, 1)+q+opt(1232, noTTL, ""))
	}
	for _, class := range []int{0, 2, 3, 4, 254, 255, 256, 257, 65535} {
		refused(name + two(1) + two(class))
		refused(name + two(0) + two(class))
	}
	for _, kind := range []int{0, 41, 249, 250, 251, 252, 253, 254} {
		refused(question(name, kind))
		refused(question(named("none.example.org"), kind))
	}
	for _, other := range []string{"", "org", "example.com", "xexample.org", "example.org.x", "example", "web.example.com"} {
		refused(question(named(other), api.A))
	}
	refused(question(labels("web.example.org"), api.A))
	refused(question(labels("web.example", "org"), api.A))
	refused(question(labels("web", "example.org"), api.A))
	refused(question(labels("example.org"), api.A))
	// All other types are asked of the zone.
	for _, kind := range []int{3, 40, 42, 248, 256, 297, 505, 65535} {
		p, err := decode(Reply(z, ask(name, kind)))
		if err != nil || p.bits != 0x8400 || len(p.lists[1]) != 1 || p.lists[1][0].Type != api.SOA {
			t.Errorf("P4: web.example.org, type %d: %+v, %v", kind, p, err)
		}
	}
	p, err := decode(Reply(z, ask(name, 255)))
	if err != nil || p.bits != 0x8400 || len(p.lists[0]) != 1 {
		t.Errorf("P4: web.example.org, any: %+v, %v", p, err)
	}
}

func TestOPT(t *testing.T) {
	z := mustParse(t, example)
	web := "\xc0\x0c\x00\x01\x00\x01\x00\x00\x00\x3c\x00\x04\xc0\x00\x02\x50"
	q := question(named("web.example.org"), api.A)
	with := func(q, o string) string { return head(7, 0, 1, 0, 0, 1) + q + o }
	for _, size := range []int{0, 512, 1232, 65535} {
		// Its other bytes do not matter.
		for _, ttl := range []string{noTTL, "\xff\x00\xff\xff", "\x00\x00\x80\x00"} {
			for _, data := range []string{"", "d", strings.Repeat("data", 300)} {
				replies(t, z, with(q, opt(size, ttl, data)), head(7, 0x8400, 1, 1, 0, 1)+q+web+opt(1232, noTTL, ""))
			}
		}
		// Another version is told first, without AA, whatever is asked.
		for _, ttl := range []string{"\x00\x01\x00\x00", "\x01\xff\x00\x00", "\x00\x80\xff\xff"} {
			for _, q := range []string{q, question(named("example.com"), 0), question(named("none.example.org"), api.A), named("web.example.org") + two(1) + two(3)} {
				replies(t, z, with(q, opt(size, ttl, "")), head(7, 0x8000, 1, 0, 0, 1)+q+opt(1232, "\x01\x00\x00\x00", ""))
			}
		}
	}
}

// Of a query's bits RD comes back alone.
func TestBits(t *testing.T) {
	z := mustParse(t, example)
	for bits := range 0x800 {
		want := 0x8400 | bits&0x100
		for name, rcode := range map[string]int{"web.example.org": 0, "none.example.org": 3} {
			p, err := decode(Reply(z, head(bits, bits, 1, 0, 0, 0)+question(named(name), api.A)))
			if err != nil || p.id != bits || p.bits != want|rcode {
				t.Fatalf("P4: bits %x and ID %x for %x, %v", p.bits, p.id, bits, err)
			}
		}
	}
	p, err := decode(Reply(z, head(0xabcd, 0, 1, 0, 0, 0)+question(named("x.sub.example.org"), api.A)))
	if err != nil || p.id != 0xabcd || p.bits != 0x8000 {
		t.Errorf("P4: bits %x and ID %x of a referral, %v", p.bits, p.id, err)
	}
	loop := mustParse(t, start+lines("l.zz 1 CNAME l.zz"))
	q := question(named("l.zz"), api.A)
	replies(t, loop, head(7, 0x100, 1, 0, 0, 0)+q, head(7, 0x8502, 1, 0, 0, 0)+q)
}

// Names are the same if they differ in capital letters alone.
func TestCapitals(t *testing.T) {
	z := mustParse(t, start+lines("azby.zz 1 A 1.1.1.1", "cut.zz 1 NS n.zz", "*.w.zz 1 TXT t", "c.zz 1 CNAME azby.zz"))
	for _, name := range []string{"azby.zz", "AZBY.ZZ", "aZbY.Zz", "zz", "zZ", "Cut.zz", "x.cUt.zZ", "X.W.ZZ", "C.zz", "No.zz"} {
		for _, kind := range []int{api.A, api.NS, api.TXT, api.CNAME, api.Any} {
			got, small := Reply(z, ask(named(name), kind)), Reply(z, ask(named(strings.ToLower(name)), kind))
			want := small[:12] + question(named(name), kind) + small[12+len(name)+6:]
			if got != want {
				t.Errorf("P4, P5: %q, type %d: %q, want %q", name, kind, got, want)
			}
		}
	}
	// These differ by the same bit, and are no letters.
	z = mustParse(t, start+lines("0.zz 1 A 1.1.1.1", "_.zz 1 A 1.1.1.1", "-.zz 1 A 1.1.1.1"))
	for _, label := range []string{"\x10", "\x7f", "\x0d", "@", "`", "[", "{", "\xdf"} {
		p, err := decode(Reply(z, ask(labels(label, "zz"), api.A)))
		if err != nil || p.bits != 0x8403 {
			t.Errorf("P4: %q: %+v, %v", label, p, err)
		}
	}
}

// Labels of questions have any bytes, and more of them than a zone's.
func TestOddNames(t *testing.T) {
	z := mustParse(t, example+lines("a.web.example.org 1 A 1.2.3.4", "b.c.example.org 1 A 1.2.3.4"))
	far := strings.Repeat("l", 63)
	const answer, authority = 0, 1
	for _, c := range []struct {
		labels []string
		bits   int
		list   int // the one with a record in it: 0 the answer, 1 the authority
		kind   int
	}{
		// Under the star: one label, or many, of any bytes.
		{[]string{"x", "wild", "example", "org"}, 0x8400, answer, api.TXT},
		{[]string{"x.y", "wild", "example", "org"}, 0x8400, answer, api.TXT},
		{[]string{".", "wild", "example", "org"}, 0x8400, answer, api.TXT},
		{[]string{"\x00", "wild", "example", "org"}, 0x8400, answer, api.TXT},
		{[]string{"\xff\n *", "WILD", "example", "org"}, 0x8400, answer, api.TXT},
		{[]string{far, far, "x", "wild", "example", "org"}, 0x8400, answer, api.TXT},
		// The star itself is there; under it there is nothing.
		{[]string{"*", "wild", "example", "org"}, 0x8400, answer, api.TXT},
		{[]string{"x", "*", "wild", "example", "org"}, 0x8403, authority, api.SOA},
		{[]string{"*", "*", "wild", "example", "org"}, 0x8403, authority, api.SOA},
		{[]string{"**", "wild", "example", "org"}, 0x8400, answer, api.TXT},
		{[]string{"*", "example", "org"}, 0x8403, authority, api.SOA},
		{[]string{"*", "web", "example", "org"}, 0x8403, authority, api.SOA},
		// A point within a label parts nothing.
		{[]string{"a.web", "example", "org"}, 0x8403, authority, api.SOA},
		{[]string{"x.wild", "example", "org"}, 0x8403, authority, api.SOA},
		{[]string{"*.wild", "example", "org"}, 0x8403, authority, api.SOA},
		{[]string{"a.sub", "example", "org"}, 0x8403, authority, api.SOA},
		{[]string{"b.c", "example", "org"}, 0x8403, authority, api.SOA},
		{[]string{"web.", "example", "org"}, 0x8403, authority, api.SOA},
		{[]string{"aPweb", "example", "org"}, 0x8403, authority, api.SOA},
		{[]string{far, far, "example", "org"}, 0x8403, authority, api.SOA},
		{[]string{"web\x00", "example", "org"}, 0x8403, authority, api.SOA},
		// Under a cut it is a referral.
		{[]string{"x.y", "sub", "example", "org"}, 0x8000, authority, api.NS},
		{[]string{"*", "sub", "example", "org"}, 0x8000, authority, api.NS},
		{[]string{far, far, far, "SUB", "example", "org"}, 0x8000, authority, api.NS},
		{[]string{"example.org", "example", "org"}, 0x8403, authority, api.SOA},
	} {
		message := ask(labels(c.labels...), api.TXT)
		p, err := decode(Reply(z, message))
		if err != nil || p.bits != c.bits || p.question != message[12:] {
			t.Errorf("P4: %q: %x %+v, %v", c.labels, p.bits, p, err)
			continue
		}
		list := p.lists[c.list]
		if len(list) != 1 || list[0].Type != c.kind || len(p.lists[1-c.list]) != 0 {
			t.Errorf("P4: %q: %+v", c.labels, p)
			continue
		}
		if c.list == answer && list[0].Owner != strings.Join(c.labels, ".") {
			t.Errorf("P5: %q: the owner is %q", c.labels, list[0].Owner)
		}
	}
}

// A chain from a name of any bytes.
func TestOddChain(t *testing.T) {
	z := mustParse(t, start+lines("*.w.zz 1 CNAME x.v.zz", "*.v.zz 1 A 1.1.1.1"))
	q := question(labels("A.b", "W", "zz"), api.A)
	// The target is at 38, behind a question of 14 bytes and a record's head of 12; its end zz stands in the question, at 18.
	want := head(7, 0x8400, 1, 2, 0, 0) + q +
		"\xc0\x0c\x00\x05\x00\x01\x00\x00\x00\x01\x00\x06\x01x\x01v\xc0\x12" +
		"\xc0\x26\x00\x01\x00\x01\x00\x00\x00\x01\x00\x04\x01\x01\x01\x01"
	replies(t, z, head(7, 0, 1, 0, 0, 0)+q, want)
}

// What is replied is what Lookup tells, of each name and type.
func TestTellsTheAnswer(t *testing.T) {
	text := example + lines("example.org 300 MX 10 ns.example.org", "example.org 300 MX 0 mail.other", "*.s.example.org 7 MX 65535 web.example.org", "*.s.example.org 8 A 255.0.255.0",
		"c1.example.org 86400 CNAME c2.example.org", "c2.example.org 0 CNAME x.s.example.org", "out.example.org 1 CNAME a.other", "ref.example.org 1 CNAME y.sub.example.org",
		"nx.example.org 1 CNAME none.example.org", "none2.example.org 1 CNAME c.example.org", "a.c.example.org 1 TXT "+strings.Repeat("~", 40), "loop.example.org 1 CNAME loop.example.org", "org.example.org 1 A 0.0.0.0")
	z := mustParse(t, text)
	for _, word := range strings.Fields(text) {
		for _, name := range []string{word, "x." + word, "example." + word, strings.TrimPrefix(word, "*.")} {
			for _, kind := range []int{api.A, api.NS, api.CNAME, api.SOA, api.MX, api.TXT, api.Any, 28} {
				want, e := z.Lookup(name, kind)
				if e != api.OK {
					continue
				}
				p, err := decode(Reply(z, askOPT(named(name), kind, 1232)))
				lists := [][]api.Record{want.Answer, want.Authority, want.Additional}
				if err != nil || p.bits&15 != want.Rcode || (p.bits&0x400 != 0) != want.Authoritative || p.bits&0x200 != 0 {
					t.Fatalf("P4: %q, type %d: %x, want %+v, %v", name, kind, p.bits, want, err)
				}
				for i, list := range lists {
					if !slices.Equal(p.lists[i], list) {
						t.Fatalf("P4, P5: %q, type %d: %v, want %v", name, kind, p.lists[i], list)
					}
				}
			}
		}
	}
}

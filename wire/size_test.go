package wire

import (
	"strconv"
	"strings"
	"testing"

	"beacon/api"
)

// many gives lines of records of one owner, with an A record each.
func many(owner string, n int) string {
	s := ""
	for i := range n {
		s += owner + " 1 A 1.1.1." + strconv.Itoa(i) + "\n"
	}
	return s
}

// An RRset is written if all of it stays within the size: 12 bytes of header,
// 10 of m.zz's question, 16 of each record, 11 of an OPT.
func TestSizes(t *testing.T) {
	text := "origin zz\nzz 1 SOA a.zz b.zz 1 1\nzz 1 NS a.zz\n"
	for _, c := range []struct{ n, size, want int }{
		{1, -1, 1}, {30, -1, 30}, {31, -1, 0}, {57, -1, 0},
		{30, 0, 0}, {30, 511, 0}, {30, 512, 0}, {30, 513, 30}, {29, 0, 29}, {29, 1, 29}, {30, 65535, 30},
		{31, 528, 0}, {31, 529, 31}, {57, 944, 0}, {57, 945, 57}, {57, 1232, 57}, {57, 1233, 57},
	} {
		z := mustParse(t, text+many("m.zz", c.n))
		message := ask(named("m.zz"), api.A)
		if c.size >= 0 {
			message = askOPT(named("m.zz"), api.A, c.size)
		}
		p, err := decode(Reply(z, message))
		if err != nil || len(p.lists[0]) != c.want || (p.bits == 0x8600) != (c.want == 0) || (p.opt == opt(1232, noTTL, "")) != (c.size >= 0) {
			t.Errorf("P4: %d records within %d: %d of them, bits %x, OPT %q, %v", c.n, c.size, len(p.lists[0]), p.bits, p.opt, err)
		}
	}
}

// The greatest size is MaxUDP, whatever an OPT says: 12 bytes of header, 10 of
// the question, 53 of each TXT, 11 of the OPT.
func TestGreatestSize(t *testing.T) {
	text := "origin zz\nzz 1 SOA a.zz b.zz 1 1\nzz 1 NS a.zz\n"
	txt := func(n, last int) string {
		s := ""
		for i := range n {
			word := strings.Repeat("w", 38) + strconv.Itoa(10+i)
			if i == n-1 {
				word = word[40-last:]
			}
			s += "m.zz 1 TXT " + word + "\n"
		}
		return s
	}
	for _, c := range []struct{ last, long int }{{19, 1231}, {20, 1232}, {21, 33}, {40, 33}} {
		z := mustParse(t, text+txt(23, c.last))
		for _, size := range []int{1232, 1233, 1300, 4096, 65535} {
			if got := Reply(z, askOPT(named("m.zz"), api.TXT, size)); len(got) != c.long || (got[2]&2 != 0) != (c.long == 33) {
				t.Errorf("P4: within %d: %d bytes, want %d", size, len(got), c.long)
			}
		}
		got := Reply(z, askOPT(named("m.zz"), api.TXT, 1231))
		if want := c.long == 1231; (len(got) == 1231) != want || (got[2]&2 == 0) != want {
			t.Errorf("P4: within 1231: %d bytes", len(got))
		}
	}
}

// What is left out are the RRsets from the first one on that does not fit.
func TestLeftOut(t *testing.T) {
	mail := ""
	for i, n := range []int{3, 9, 1, 12, 2} {
		mail += "zz 1 MX " + strconv.Itoa(i) + " m" + strconv.Itoa(i) + ".zz\n" + many("m"+strconv.Itoa(i)+".zz", n)
	}
	servers := ""
	for i := range 20 {
		servers += "cut.zz 1 NS a-long-name-" + strconv.Itoa(i) + ".example.org\n"
	}
	for _, c := range []struct {
		text, name string
		kind       int
	}{
		{start + mail + many("n.zz", 2), "zz", api.MX},
		{start + mail + many("n.zz", 2), "zz", api.Any},
		{start + servers + lines("c.zz 1 CNAME d.zz", "d.zz 1 CNAME x.cut.zz", "cut.zz 1 NS n.zz") + many("n.zz", 10), "c.zz", api.A},
		{start + lines("e.zz 1 CNAME f.zz", "f.zz 1 CNAME g.zz") + many("g.zz", 40), "e.zz", api.A},
		{start + lines("e.zz 1 CNAME f.zz") + many("g.zz", 40), "e.zz", api.A},
	} {
		z := mustParse(t, c.text)
		whole := Reply(z, askOPT(named(c.name), c.kind, 1232))
		all, err := decode(whole)
		if err != nil || all.bits&0x200 != 0 || all.opt == "" {
			t.Fatalf("P4: %s is told in parts, even within 1232: %x, %v", c.name, all.bits, err)
		}
		for size := 500; size <= 1240; size++ {
			bits, counts, end := all.bits, [3]int{}, 12+len(all.question)
			full := false
			for _, set := range all.sets {
				full = full || set.end+11 > max(size, 512)
				if !full {
					counts[set.list] += set.records
					end = set.end
				} else if set.list < 2 {
					bits |= 0x200
				}
			}
			want := head(7, bits, 1, counts[0], counts[1], counts[2]+1) + whole[12:end] + opt(1232, noTTL, "")
			if got := Reply(z, askOPT(named(c.name), c.kind, size)); got != want {
				t.Fatalf("P4: %s, type %d within %d:\n%q, want\n%q", c.name, c.kind, size, got, want)
			}
		}
	}
}

// One that would fit behind one that does not is left out too; TC tells of the
// answer and the authority alone.
func TestBehindWhatIsLeftOut(t *testing.T) {
	check := func(text, name string, kind, bits, answer, authority, additional int) {
		t.Helper()
		p, err := decode(Reply(mustParse(t, text), ask(named(name), kind)))
		if err != nil || p.bits != bits || len(p.lists[0]) != answer || len(p.lists[1]) != authority || len(p.lists[2]) != additional {
			t.Errorf("P4: %s, type %d: bits %x, %d, %d, %d records, %v", name, kind, p.bits, len(p.lists[0]), len(p.lists[1]), len(p.lists[2]), err)
		}
	}
	servers := ""
	for i := range 20 {
		servers += "cut.zz 1 NS a-long-name-" + strconv.Itoa(i) + ".example.org\n"
	}
	// Of the answer: the MX and TXT behind, and the MX's address.
	check(start+many("m.zz", 40)+lines("m.zz 1 MX 1 n.zz", "m.zz 1 TXT t", "n.zz 1 A 1.1.1.1"), "m.zz", api.Any, 0x8600, 0, 0, 0)
	// Of the authority: the address of its NS.
	check(start+servers+lines("cut.zz 1 NS n.zz", "n.zz 1 A 1.1.1.1"), "x.cut.zz", api.A, 0x8200, 0, 0, 0)
	check(start+servers+lines("cut.zz 1 NS n.zz", "n.zz 1 A 1.1.1.1", "c.zz 1 CNAME cut.zz"), "c.zz", api.A, 0x8600, 1, 0, 0)
	// Of the answer, behind a CNAME.
	check(start+many("m.zz", 40)+lines("c.zz 1 CNAME m.zz"), "c.zz", api.A, 0x8600, 1, 0, 0)
	// Of the answer, which is eight CNAMEs of 63 bytes: a SOA of 40 bytes, which
	// would fit behind 22 bytes and seven of them.
	chain, name := "", "c.zz"
	for i := range 8 {
		target := strings.Repeat(strconv.Itoa(i), 20) + "." + strings.Repeat("b", 19) + strconv.Itoa(i) + ".ccccc" + strconv.Itoa(i) + ".zz"
		chain += name + " 1 CNAME " + target + "\n"
		name = target
	}
	check(start+chain, "c.zz", api.A, 0x8603, 7, 0, 0)
	// Of the additional.
	check(start+many("m.zz", 40)+lines("zz 1 MX 1 k.zz", "zz 1 MX 2 m.zz", "zz 1 MX 3 n.zz", "k.zz 1 A 1.1.1.1", "n.zz 1 A 1.1.1.1"), "zz", api.MX, 0x8400, 3, 0, 1)
}

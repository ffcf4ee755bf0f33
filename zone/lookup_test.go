package zone

import (
	"strconv"
	"strings"
	"testing"

	"beacon/api"
)

// Examples 1 to 3 of the document.
func TestExamples(t *testing.T) {
	z := mustParse(t, example)
	const soa = "example.org 60 6 ns.example.org admin.example.org 7 60"
	const glue = "ns.sub.example.org 300 1 192.0.2.9"
	asks(t, z, "www.example.org", api.A, want(api.NoError, true, "www.example.org 60 5 web.example.org; web.example.org 60 1 192.0.2.80"))
	asks(t, z, "example.org", api.NS, want(api.NoError, true, "example.org 300 2 ns.example.org", "", "ns.example.org 300 1 192.0.2.1"))
	asks(t, z, "x.wild.example.org", api.TXT, want(api.NoError, true, "x.wild.example.org 60 16 hi"))
	asks(t, z, "wild.example.org", api.TXT, want(api.NoError, true, "", soa))
	asks(t, z, "none.example.org", api.A, want(api.NXDomain, true, "", soa))
	asks(t, z, "a.sub.example.org", api.A, want(api.NoError, false, "", "sub.example.org 300 2 ns.sub.example.org", glue))
}

func TestLookupWrong(t *testing.T) {
	z := mustParse(t, example)
	wrong := func(name string, kind int) {
		t.Helper()
		a, e := z.Lookup(name, kind)
		if e != api.ErrName || told(a) != want(0, false) {
			t.Errorf("P3, P1: Lookup(%q, %d) = %s, %d, want nothing, ErrName", name, kind, told(a), e)
		}
	}
	for _, name := range []string{
		"", ".", "example.org.", ".example.org", "a..example.org", "*", "*.example.org", "*.wild.example.org", "WWW.example.org", "a b.example.org", "\x00", "\xff",
		"a.*.example.org", strings.Repeat("a", 21) + ".example.org", strings.Repeat("a.", 5000),
	} {
		wrong(name, api.A)
		wrong(name, 0)
	}
	for _, kind := range []int{0, -1, 65536, 65537, 1 << 40, -1 << 63, 1<<63 - 1} {
		wrong("example.org", kind)
		wrong("org", kind)
	}
	for _, kind := range []int{1, 41, 254, 65535} {
		if _, e := z.Lookup("web.example.org", kind); e != api.OK {
			t.Errorf("P3: Lookup of type %d: %d", kind, e)
		}
	}
	longest := "b" + strings.Repeat("a.", 24) + "example.org"
	if _, e := z.Lookup(longest, api.A); len(longest) != api.MaxName || e != api.OK {
		t.Errorf("P3: Lookup of %d bytes: %d", len(longest), e)
	}
	wrong("b"+longest, api.A)
}

// Step 1: names that are not under the origin.
func TestLookupOutside(t *testing.T) {
	z := mustParse(t, head+"*.zz 1 TXT t\n")
	for _, name := range []string{"a", "z", "azz", "zz.a", "a.zz.b", "zzz"} {
		asks(t, z, name, api.TXT, want(api.Refused, false))
		asks(t, z, name, api.Any, want(api.Refused, false))
	}
}

// Step 2: referrals, whatever is asked for, and of whatever is below.
func TestLookupReferral(t *testing.T) {
	z := mustParse(t, head+lines("deep.g.cut.zz 1 A 8.8.8.8", "cut.zz 6 NS n.zz", "g.cut.zz 1 A 7.7.7.7", "n.zz 2 A 3.3.3.3", "cut.zz 6 NS g.cut.zz", "cut.zz 6 NS out", "x.y.zz 1 NS g.cut.zz", "*.zz 1 A 1.1.1.1"))
	referral := want(api.NoError, false, "", "cut.zz 6 2 n.zz; cut.zz 6 2 g.cut.zz; cut.zz 6 2 out", "n.zz 2 1 3.3.3.3; g.cut.zz 1 1 7.7.7.7")
	for _, name := range []string{"cut.zz", "g.cut.zz", "deep.g.cut.zz", "none.cut.zz", "a.b.c.cut.zz"} {
		for _, kind := range []int{api.A, api.NS, api.CNAME, api.SOA, api.MX, api.TXT, api.Any, 28} {
			asks(t, z, name, kind, referral)
		}
	}
	asks(t, z, "a.x.y.zz", api.A, want(api.NoError, false, "", "x.y.zz 1 2 g.cut.zz", "g.cut.zz 1 1 7.7.7.7"))
	asks(t, z, "y.zz", api.A, want(api.NoError, true, "", headSOA))
	asks(t, z, "acut.zz", api.A, want(api.NoError, true, "acut.zz 1 1 1.1.1.1"))
	// The origin's NS are no cut.
	asks(t, z, "zz", api.TXT, want(api.NoError, true, "", headSOA))
}

// Step 3: names that are there.
func TestLookupThere(t *testing.T) {
	z := mustParse(t, head+lines("a.zz 3 TXT z", "a.zz 1 MX 5 n.zz", "a.zz 2 A 2.2.2.2", "b.a.ent.zz 1 TXT t", "a.zz 3 TXT y", "a.zz 2 A 1.1.1.1", "zz 4 TXT t"))
	asks(t, z, "a.zz", api.TXT, want(api.NoError, true, "a.zz 3 16 z; a.zz 3 16 y"))
	asks(t, z, "a.zz", api.A, want(api.NoError, true, "a.zz 2 1 2.2.2.2; a.zz 2 1 1.1.1.1"))
	asks(t, z, "a.zz", api.Any, want(api.NoError, true, "a.zz 2 1 2.2.2.2; a.zz 2 1 1.1.1.1; a.zz 1 15 5 n.zz; a.zz 3 16 z; a.zz 3 16 y"))
	asks(t, z, "zz", api.Any, want(api.NoError, true, "zz 5 2 n.zz; zz 9 6 a.zz b.zz 1 20; zz 4 16 t"))
	for _, kind := range []int{api.CNAME, api.NS, api.SOA, 28, 65535} {
		asks(t, z, "a.zz", kind, want(api.NoError, true, "", headSOA))
	}
	for _, name := range []string{"ent.zz", "a.ent.zz"} {
		asks(t, z, name, api.TXT, want(api.NoError, true, "", headSOA))
		asks(t, z, name, api.Any, want(api.NoError, true, "", headSOA))
	}
}

// The SOA: with its own TTL in the answer, with the smaller one in the authority.
func TestLookupSOA(t *testing.T) {
	for _, c := range []struct{ ttl, minimum, want int }{{300, 60, 60}, {60, 300, 60}, {7, 7, 7}, {0, 9, 0}, {9, 0, 0}, {86400, 86399, 86399}} {
		data := "a.zz b.zz 1 " + strconv.Itoa(c.minimum)
		z := mustParse(t, lines("origin zz", "zz "+strconv.Itoa(c.ttl)+" SOA "+data, "zz 1 NS n"))
		low := "zz " + strconv.Itoa(c.want) + " 6 " + data
		asks(t, z, "zz", api.SOA, want(api.NoError, true, "zz "+strconv.Itoa(c.ttl)+" 6 "+data))
		asks(t, z, "zz", api.A, want(api.NoError, true, "", low))
		asks(t, z, "a.zz", api.A, want(api.NXDomain, true, "", low))
	}
}

// Steps 4 and 5: the star of the nearest ancestor that is there, or nothing.
func TestLookupStar(t *testing.T) {
	z := mustParse(t, head+lines("*.zz 1 TXT top", "*.zz 2 A 1.1.1.1", "*.low.zz 3 TXT low", "x.y.zz 1 TXT t", "*.far.way.zz 1 MX 1 n.zz", "*.link.zz 4 CNAME a.low.zz"))
	asks(t, z, "a.zz", api.TXT, want(api.NoError, true, "a.zz 1 16 top"))
	asks(t, z, "c.b.a.zz", api.A, want(api.NoError, true, "c.b.a.zz 2 1 1.1.1.1"))
	asks(t, z, "a.zz", api.Any, want(api.NoError, true, "a.zz 2 1 1.1.1.1; a.zz 1 16 top"))
	asks(t, z, "a.zz", api.MX, want(api.NoError, true, "", headSOA))
	asks(t, z, "a.low.zz", api.TXT, want(api.NoError, true, "a.low.zz 3 16 low"))
	asks(t, z, "b.a.low.zz", api.TXT, want(api.NoError, true, "b.a.low.zz 3 16 low"))
	asks(t, z, "a.low.zz", api.A, want(api.NoError, true, "", headSOA))
	asks(t, z, "low.zz", api.TXT, want(api.NoError, true, "", headSOA))
	asks(t, z, "a.link.zz", api.TXT, want(api.NoError, true, "a.link.zz 4 5 a.low.zz; a.low.zz 3 16 low"))
	asks(t, z, "a.link.zz", api.CNAME, want(api.NoError, true, "a.link.zz 4 5 a.low.zz"))
	asks(t, z, "a.link.zz", api.Any, want(api.NoError, true, "a.link.zz 4 5 a.low.zz"))
	asks(t, z, "a.far.way.zz", api.MX, want(api.NoError, true, "a.far.way.zz 1 15 1 n.zz"))
	// What is nearer and there keeps a star that is farther off away.
	for _, name := range []string{"a.y.zz", "a.x.y.zz", "b.a.x.y.zz", "a.way.zz"} {
		asks(t, z, name, api.TXT, want(api.NXDomain, true, "", headSOA))
		asks(t, z, name, api.Any, want(api.NXDomain, true, "", headSOA))
	}
	asks(t, mustParse(t, head), "a.zz", api.TXT, want(api.NXDomain, true, "", headSOA))
}

// Step 3: where CNAMEs lead.
func TestLookupLinks(t *testing.T) {
	z := mustParse(t, head+lines(
		"to.zz 1 TXT t", "in.zz 1 CNAME to.zz", "two.zz 2 CNAME in.zz", "gone.zz 1 CNAME none.zz", "out.zz 1 CNAME a.other", "near.zz 1 CNAME xzz",
		"cut.zz 6 NS g.cut.zz", "g.cut.zz 1 A 7.7.7.7", "ref.zz 1 CNAME g.cut.zz", "star.zz 1 CNAME a.s.zz", "*.s.zz 1 CNAME to.zz", "ent.zz 1 CNAME s.zz", "home.zz 1 CNAME zz",
		"self.zz 1 CNAME self.zz", "ping.zz 1 CNAME pong.zz", "pong.zz 1 CNAME ping.zz", "enter.zz 1 CNAME ping.zz", "*.round.zz 1 CNAME a.round.zz"))
	asks(t, z, "in.zz", api.TXT, want(api.NoError, true, "in.zz 1 5 to.zz; to.zz 1 16 t"))
	asks(t, z, "two.zz", api.TXT, want(api.NoError, true, "two.zz 2 5 in.zz; in.zz 1 5 to.zz; to.zz 1 16 t"))
	asks(t, z, "two.zz", api.A, want(api.NoError, true, "two.zz 2 5 in.zz; in.zz 1 5 to.zz", headSOA))
	asks(t, z, "two.zz", api.CNAME, want(api.NoError, true, "two.zz 2 5 in.zz"))
	asks(t, z, "two.zz", api.Any, want(api.NoError, true, "two.zz 2 5 in.zz"))
	asks(t, z, "gone.zz", api.TXT, want(api.NXDomain, true, "gone.zz 1 5 none.zz", headSOA))
	asks(t, z, "out.zz", api.TXT, want(api.NoError, true, "out.zz 1 5 a.other"))
	asks(t, z, "near.zz", api.TXT, want(api.NoError, true, "near.zz 1 5 xzz"))
	asks(t, z, "ref.zz", api.A, want(api.NoError, true, "ref.zz 1 5 g.cut.zz", "cut.zz 6 2 g.cut.zz", "g.cut.zz 1 1 7.7.7.7"))
	asks(t, z, "star.zz", api.TXT, want(api.NoError, true, "star.zz 1 5 a.s.zz; a.s.zz 1 5 to.zz; to.zz 1 16 t"))
	asks(t, z, "ent.zz", api.TXT, want(api.NoError, true, "ent.zz 1 5 s.zz", headSOA))
	asks(t, z, "home.zz", api.SOA, want(api.NoError, true, "home.zz 1 5 zz; "+headSOA))
	for _, name := range []string{"self.zz", "ping.zz", "pong.zz", "enter.zz", "x.round.zz"} {
		asks(t, z, name, api.TXT, want(api.ServFail, true))
	}
	asks(t, z, "self.zz", api.Any, want(api.NoError, true, "self.zz 1 5 self.zz"))
	asks(t, z, "ping.zz", api.CNAME, want(api.NoError, true, "ping.zz 1 5 pong.zz"))
}

// Eight CNAMEs, with each end that a chain has; and a ninth.
func TestLookupChain(t *testing.T) {
	text := head + "c0.zz 1 A 4.4.4.4\nd0.zz 1 CNAME a.other\ne0.zz 1 CNAME none.zz\n"
	for _, c := range []string{"c", "d", "e"} {
		for i := range 9 {
			text += c + strconv.Itoa(i+1) + ".zz 1 CNAME " + c + strconv.Itoa(i) + ".zz\n"
		}
	}
	z := mustParse(t, text)
	chain := func(c string, from, to int) string {
		var l []string
		for i := from; i > to; i-- {
			l = append(l, c+strconv.Itoa(i)+".zz 1 5 "+c+strconv.Itoa(i-1)+".zz")
		}
		return strings.Join(l, "; ")
	}
	asks(t, z, "c8.zz", api.A, want(api.NoError, true, chain("c", 8, 0)+"; c0.zz 1 1 4.4.4.4"))
	asks(t, z, "c8.zz", api.TXT, want(api.NoError, true, chain("c", 8, 0), headSOA))
	asks(t, z, "c9.zz", api.A, want(api.ServFail, true))
	asks(t, z, "d7.zz", api.A, want(api.NoError, true, chain("d", 7, 0)+"; d0.zz 1 5 a.other"))
	asks(t, z, "d8.zz", api.A, want(api.ServFail, true))
	asks(t, z, "e7.zz", api.A, want(api.NXDomain, true, chain("e", 7, 0)+"; e0.zz 1 5 none.zz", headSOA))
	asks(t, z, "e8.zz", api.A, want(api.ServFail, true))
	asks(t, z, "c9.zz", api.CNAME, want(api.NoError, true, "c9.zz 1 5 c8.zz"))
}

func TestLookupAdditional(t *testing.T) {
	z := mustParse(t, head+lines(
		"zz 5 NS m.zz", "n.zz 2 A 2.0.0.2", "m.zz 1 A 1.0.0.2", "m.zz 1 A 1.0.0.1", "zz 3 MX 10 m.zz", "zz 3 MX 5 n.zz", "zz 3 MX 7 m.zz", "zz 3 MX 1 out", "zz 3 MX 2 none.zz", "zz 3 MX 3 al.zz", "zz 3 MX 4 any.s.zz",
		"al.zz 1 CNAME m.zz", "*.s.zz 1 A 9.9.9.9", "me.zz 1 MX 1 me.zz", "me.zz 1 MX 2 n.zz", "me.zz 1 A 6.6.6.6", "*.w.zz 1 MX 1 m.zz", "to.zz 1 CNAME me.zz", "t.zz 1 TXT m.zz", "ns.zz 1 CNAME zz"))
	const m, n = "m.zz 1 1 1.0.0.2; m.zz 1 1 1.0.0.1", "n.zz 2 1 2.0.0.2"
	const mx = "zz 3 15 10 m.zz; zz 3 15 5 n.zz; zz 3 15 7 m.zz; zz 3 15 1 out; zz 3 15 2 none.zz; zz 3 15 3 al.zz; zz 3 15 4 any.s.zz"
	const ns = "zz 5 2 n.zz; zz 5 2 m.zz"
	// In the order of their records, each once; neither over a CNAME nor by a star.
	asks(t, z, "zz", api.MX, want(api.NoError, true, mx, "", m+"; "+n))
	asks(t, z, "zz", api.NS, want(api.NoError, true, ns, "", n+"; "+m))
	asks(t, z, "zz", api.Any, want(api.NoError, true, ns+"; "+headSOA+"; "+mx, "", n+"; "+m))
	asks(t, z, "ns.zz", api.NS, want(api.NoError, true, "ns.zz 1 5 zz; "+ns, "", n+"; "+m))
	asks(t, z, "x.w.zz", api.MX, want(api.NoError, true, "x.w.zz 1 15 1 m.zz", "", m))
	// What is in the answer is not there once more.
	asks(t, z, "me.zz", api.MX, want(api.NoError, true, "me.zz 1 15 1 me.zz; me.zz 1 15 2 n.zz", "", "me.zz 1 1 6.6.6.6; "+n))
	asks(t, z, "me.zz", api.Any, want(api.NoError, true, "me.zz 1 1 6.6.6.6; me.zz 1 15 1 me.zz; me.zz 1 15 2 n.zz", "", n))
	asks(t, z, "to.zz", api.MX, want(api.NoError, true, "to.zz 1 5 me.zz; me.zz 1 15 1 me.zz; me.zz 1 15 2 n.zz", "", "me.zz 1 1 6.6.6.6; "+n))
	// Only NS and MX bring more.
	asks(t, z, "t.zz", api.TXT, want(api.NoError, true, "t.zz 1 16 m.zz"))
	asks(t, z, "al.zz", api.CNAME, want(api.NoError, true, "al.zz 1 5 m.zz"))
	asks(t, z, "zz", api.SOA, want(api.NoError, true, headSOA))
}

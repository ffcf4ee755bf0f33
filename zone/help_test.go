package zone

import (
	"strconv"
	"strings"
	"testing"

	"beacon/api"
)

// example is the document's zone.
const example = `origin example.org
example.org 300 SOA ns.example.org admin.example.org 7 60
example.org 300 NS ns.example.org
ns.example.org 300 A 192.0.2.1
www.example.org 60 CNAME web.example.org
web.example.org 60 A 192.0.2.80
*.wild.example.org 60 TXT hi
sub.example.org 300 NS ns.sub.example.org
ns.sub.example.org 300 A 192.0.2.9
`

// head begins a small zone, to which tests add lines.
const head = `origin zz
zz 9 SOA a.zz b.zz 1 20
zz 5 NS n.zz
`

// headSOA is its SOA in an authority.
const headSOA = "zz 9 6 a.zz b.zz 1 20"

func lines(l ...string) string {
	return strings.Join(append(l, ""), "\n")
}

func mustParse(t *testing.T, text string) *Zone {
	t.Helper()
	z, e := Parse(text)
	if z == nil || e != api.OK {
		t.Fatalf("P3: Parse(%q) = %v, %d", text, z, e)
	}
	return z
}

// told writes an answer down: rcode, authoritative, and the lists' records.
func told(a api.Answer) string {
	s := strconv.Itoa(a.Rcode) + " " + strconv.FormatBool(a.Authoritative)
	for _, list := range [][]api.Record{a.Answer, a.Authority, a.Additional} {
		s += " |"
		for _, r := range list {
			s += " " + r.Owner + " " + strconv.Itoa(r.TTL) + " " + strconv.Itoa(r.Type) + " " + r.Data + ";"
		}
	}
	return s
}

// want is an answer as told writes it; each list's records are parted by "; ".
func want(rcode int, authoritative bool, lists ...string) string {
	s := strconv.Itoa(rcode) + " " + strconv.FormatBool(authoritative)
	for i := range 3 {
		s += " |"
		if i < len(lists) && lists[i] != "" {
			s += " " + lists[i] + ";"
		}
	}
	return s
}

func asks(t *testing.T, z *Zone, name string, kind int, want string) {
	t.Helper()
	a, e := z.Lookup(name, kind)
	if e != api.OK || told(a) != want {
		t.Errorf("P3: Lookup(%q, %d) = %s, %d\nwant %s", name, kind, told(a), e, want)
	}
}

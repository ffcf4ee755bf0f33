package wire

import (
	"fmt"
	"strconv"
	"strings"
	"testing"

	"beacon/api"
	"beacon/zone"
)

// example is the document's zone, with one line more.
const example = `origin example.org
example.org 300 SOA ns.example.org admin.example.org 7 60
example.org 300 NS ns.example.org
ns.example.org 300 A 192.0.2.1
www.example.org 60 CNAME web.example.org
web.example.org 60 A 192.0.2.80
*.wild.example.org 60 TXT hi
sub.example.org 300 NS ns.sub.example.org
ns.sub.example.org 300 A 192.0.2.9
mx.example.org 5 MX 258 web.example.org
`

// start begins a small zone, to which tests add lines.
const start = "origin zz\nzz 9 SOA a.zz b.zz 1 20\nzz 5 NS n.zz\n"

func lines(l ...string) string {
	return strings.Join(append(l, ""), "\n")
}

func mustParse(t testing.TB, text string) *zone.Zone {
	t.Helper()
	z, e := zone.Parse(text)
	if z == nil || e != api.OK {
		t.Fatalf("P3: Parse(%q): %d", text, e)
	}
	return z
}

func two(n int) string {
	return string([]byte{byte(n >> 8), byte(n)})
}

// labels writes a name's labels, which may have any bytes.
func labels(l ...string) string {
	s := ""
	for _, label := range l {
		s += string([]byte{byte(len(label))}) + label
	}
	return s + "\x00"
}

// named writes a name whose labels have points between.
func named(name string) string {
	if name == "" {
		return labels()
	}
	return labels(strings.Split(name, ".")...)
}

func head(id, bits int, counts ...int) string {
	s := two(id) + two(bits)
	for _, n := range counts {
		s += two(n)
	}
	return s
}

func question(name string, kind int) string {
	return name + two(kind) + two(1)
}

func opt(size int, ttl, data string) string {
	return "\x00" + two(41) + two(size) + ttl + two(len(data)) + data
}

const noTTL = "\x00\x00\x00\x00"

// ask is a query without an OPT, and askOPT one with.
func ask(name string, kind int) string {
	return head(7, 0, 1, 0, 0, 0) + question(name, kind)
}

func askOPT(name string, kind, size int) string {
	return head(7, 0, 1, 0, 0, 1) + question(name, kind) + opt(size, noTTL, "")
}

func replies(t *testing.T, z *zone.Zone, message, want string) {
	t.Helper()
	if got := Reply(z, message); got != want {
		t.Errorf("P4: Reply(%q) =\n%q, want\n%q", message, got, want)
	}
}

// decoder reads a reply, and holds its names against P5's rule.
type decoder struct {
	s  string
	at int
	// written tells where the ends of names were written first, as labels
	// with their lengths, without capital letters.
	written map[string]int
}

// parts is a reply taken apart.
type parts struct {
	id, bits int
	question string
	// lists are told as those of a lookup; OPT is apart.
	lists [3][]api.Record
	opt   string
	// sets tells where each RRset ends, and in which list it stands.
	sets []set
}

type set struct{ list, end, records int }

func decode(s string) (p parts, err error) {
	defer func() {
		if r := recover(); r != nil {
			err = fmt.Errorf("%v in %q", r, s)
		}
	}()
	d := &decoder{s: s, written: map[string]int{}}
	p.id, p.bits = d.short(), d.short()
	counts := [4]int{d.short(), d.short(), d.short(), d.short()}
	if counts[0] > 0 {
		d.name()
		d.at += 4
		p.question = s[12:d.at]
	}
	for i := range p.lists {
		for k := range counts[i+1] {
			if i == 2 && k == counts[3]-1 && s[d.at:d.at+3] == "\x00\x00\x29" {
				p.opt = s[d.at:]
				return p, nil
			}
			r := d.record()
			same := k > 0 && p.lists[i][k-1].Owner == r.Owner && p.lists[i][k-1].Type == r.Type
			if !same {
				p.sets = append(p.sets, set{list: i})
			}
			last := &p.sets[len(p.sets)-1]
			last.end, last.records = d.at, last.records+1
			p.lists[i] = append(p.lists[i], r)
		}
	}
	if d.at != len(s) {
		panic("bytes behind")
	}
	return p, nil
}

func (d *decoder) number(n int) int {
	v := 0
	for range n {
		v = v<<8 | int(d.s[d.at])
		d.at++
	}
	return v
}

func (d *decoder) short() int { return d.number(2) }

// name reads one, as a text.
func (d *decoder) name() string {
	from := d.at
	for d.s[d.at] != 0 && d.s[d.at] < 64 {
		end := strings.ToLower(d.whole(d.at))
		if at, ok := d.written[end]; ok {
			panic(fmt.Sprintf("P5: %q at %d stands already at %d", end, d.at, at))
		}
		d.written[end] = d.at
		d.at += 1 + int(d.s[d.at])
	}
	if d.s[d.at] == 0 {
		d.at++
	} else {
		end := strings.ToLower(d.whole(d.at))
		at := d.short() - 0xc000
		if first, ok := d.written[end]; !ok || first != at {
			panic(fmt.Sprintf("P5: %q is pointed to at %d, not at %d", end, at, first))
		}
	}
	whole := d.whole(from)
	var l []string
	for whole != "" {
		l = append(l, whole[1:1+whole[0]])
		whole = whole[1+whole[0]:]
	}
	return strings.Join(l, ".")
}

// whole gives all labels of a name at a place, with their lengths.
func (d *decoder) whole(at int) string {
	out := ""
	for d.s[at] != 0 {
		if d.s[at] >= 0xc0 {
			to := int(d.s[at])<<8 + int(d.s[at+1]) - 0xc000
			if to >= at {
				panic("P5: a pointer that does not point ahead")
			}
			at = to
			continue
		}
		out += d.s[at : at+1+int(d.s[at])]
		at += 1 + int(d.s[at])
	}
	return out
}

func (d *decoder) record() api.Record {
	r := api.Record{Owner: d.name(), Type: d.short()}
	if d.short() != 1 {
		panic("P5: a class that is not 1")
	}
	r.TTL = d.number(4)
	size := d.short()
	end := d.at + size
	r.Data = d.data(r.Type)
	if d.at != end {
		panic(fmt.Sprintf("P5: data of type %d ends at %d, not at %d", r.Type, d.at, end))
	}
	return r
}

func (d *decoder) data(kind int) string {
	switch kind {
	case api.A:
		return fmt.Sprintf("%d.%d.%d.%d", d.number(1), d.number(1), d.number(1), d.number(1))
	case api.NS, api.CNAME:
		return d.name()
	case api.MX:
		return strconv.Itoa(d.short()) + " " + d.name()
	case api.TXT:
		n := d.number(1)
		d.at += n
		return d.s[d.at-n : d.at]
	case api.SOA:
		s := d.name() + " " + d.name() + " " + strconv.Itoa(d.number(4))
		if d.number(4) != 3600 || d.number(4) != 600 || d.number(4) != 86400 {
			panic("P5: refresh, retry or expire")
		}
		return s + " " + strconv.Itoa(d.number(4))
	}
	panic("P5: a type of no zone")
}

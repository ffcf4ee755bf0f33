package lookup

import (
	"slices"
	"testing"

	"beacon/api"
	"beacon/names"
	"beacon/records"
)

func record(owner string, kind int, data string) api.Record {
	return api.Record{Owner: owner, TTL: 9, Type: kind, Data: data}
}

func sample() *Table {
	list := []api.Record{
		record("zz", api.SOA, "a.zz b.zz 1 5"), record("zz", api.NS, "n.zz"), record("n.zz", api.A, "1.1.1.1"), record("*.w.zz", api.TXT, "t"),
		record("x.y.zz", api.TXT, "t"), record("cut.zz", api.NS, "n.zz"), record("*.c.zz", api.CNAME, "k.w.zz"), record("l.zz", api.CNAME, "l.zz"),
	}
	records.Sort(list)
	return New("zz", list)
}

// What names of any labels are answered, told by the types of the records.
func TestAnswer(t *testing.T) {
	for _, c := range []struct {
		labels        []string
		rcode         int
		authoritative bool
		kinds         []int
	}{
		{nil, api.Refused, false, nil},
		{[]string{"n.zz"}, api.Refused, false, nil},
		{[]string{"N", "ZZ"}, api.NoError, true, []int{api.SOA}},
		{[]string{"*", "w", "zz"}, api.NoError, true, []int{api.TXT}},
		{[]string{"a.b", "w", "zz"}, api.NoError, true, []int{api.TXT}},
		{[]string{"a", "*", "w", "zz"}, api.NXDomain, true, []int{api.SOA}},
		{[]string{"x.y", "zz"}, api.NXDomain, true, []int{api.SOA}},
		{[]string{"y", "zz"}, api.NoError, true, []int{api.SOA}},
		{[]string{"x.cut", "zz"}, api.NXDomain, true, []int{api.SOA}},
		{[]string{"x.", "CUT", "zz"}, api.NoError, false, []int{api.NS, api.A}},
		{[]string{"..", "c", "zz"}, api.NoError, true, []int{api.CNAME, api.TXT}},
		{[]string{"l", "zz"}, api.ServFail, true, nil},
	} {
		name := names.FromLabels(c.labels...)
		a := sample().Answer(name, api.TXT)
		var kinds []int
		for _, r := range slices.Concat(a.Answer, a.Authority, a.Additional) {
			kinds = append(kinds, r.Type)
		}
		if a.Rcode != c.rcode || a.Authoritative != c.authoritative || !slices.Equal(kinds, c.kinds) {
			t.Errorf("P4: %q: %+v", c.labels, a)
		}
	}
	if a := sample().Answer(names.FromLabels("A.b", "c", "zz"), api.TXT); a.Answer[0].Owner != names.FromLabels("a.b", "c", "zz") || a.Answer[1].Owner != "k.w.zz" {
		t.Errorf("P5: the owners of stars' records: %+v", a)
	}
}

// P1: no table is asked, too.
func TestNoTable(t *testing.T) {
	var none *Table
	for _, name := range []string{"", "zz"} {
		if a := none.Answer(name, api.A); a.Rcode != api.Refused || a.Authoritative {
			t.Errorf("no table answers %q: %+v", name, a)
		}
	}
}

func TestCancel(t *testing.T) {
	c := newCancel()
	if c.asked() || newCancel().asked() {
		t.Error("a new cancel was asked for")
	}
	c.call()
	c.call()
	if !c.asked() || !c.asked() {
		t.Error("a cancel that was asked for is not")
	}
}

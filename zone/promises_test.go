package zone

import (
	"math/rand"
	"slices"
	"strings"
	"sync"
	"testing"

	"beacon/api"
)

var kinds = []int{api.A, api.NS, api.CNAME, api.SOA, api.MX, api.TXT, api.Any, 28}

// everything tells all that a zone answers to some names.
func everything(z *Zone, names []string) string {
	var s strings.Builder
	for _, name := range names {
		for _, kind := range kinds {
			a, e := z.Lookup(name, kind)
			s.WriteString(name + ": " + told(a) + " " + string(rune('0'+e)) + "\n")
		}
	}
	return s.String()
}

// namesOf gives names that a text speaks of, and some around them.
func namesOf(text string) []string {
	var l []string
	for _, word := range strings.Fields(text) {
		word = strings.TrimPrefix(word, "*.")
		l = append(l, word, "a."+word, "b.a."+word, strings.TrimPrefix(word, "a"))
	}
	slices.Sort(l)
	return slices.Compact(l)
}

// P1: a text changed at any place is refused, or a zone that answers.
func TestEndsAtAllTexts(t *testing.T) {
	const signs = "\x00\n .*-0A9az\x7f\xff"
	text := example + "loop.example.org 1 CNAME loop.example.org\nexample.org 5 MX 1 web.example.org\n"
	try := func(changed string) {
		z, e := Parse(changed)
		if (z == nil) != (e == api.ErrZone) || (z != nil) != (e == api.OK) {
			t.Fatalf("P1: Parse(%q) = %v, %d", changed, z, e)
		}
		if z != nil {
			everything(z, []string{"example.org", "www.example.org", "x.wild.example.org", "loop.example.org", "a.sub.example.org", "a.b.c"})
		}
	}
	for i := range text {
		try(text[:i])
		try(text[i:])
		try(text[:i] + text[i+1:])
		for j := range signs {
			try(text[:i] + signs[j:j+1] + text[i:])
			try(text[:i] + signs[j:j+1] + text[i+1:])
		}
	}
	try(strings.Repeat("\n", 1<<20))
	try("origin " + strings.Repeat("a", 1<<20))
	try(head + "a.zz " + strings.Repeat("9", 1<<20) + " A 1.1.1.1\n")
}

// P1: what Parse gives beside an error can be asked, too.
func TestNoZone(t *testing.T) {
	z, _ := Parse("")
	asks(t, z, "a", api.A, want(api.Refused, false))
	if a, e := z.Lookup("", api.A); e != api.ErrName || told(a) != want(0, false) {
		t.Errorf("P3: Lookup of no name in no zone: %s, %d", told(a), e)
	}
}

// P2: the order of a text counts within RRsets alone.
func TestOrderOfOtherLines(t *testing.T) {
	l := strings.Split(strings.TrimSuffix(head+lines(
		"a.zz 1 TXT t", "n.zz 1 A 1.1.1.1", "b.zz 1 CNAME a.zz", "c.zz 1 CNAME b.zz", "cut.zz 1 NS g.cut.zz", "g.cut.zz 1 A 1.1.1.1", "*.zz 1 MX 1 n.zz", "*.a.zz 1 TXT s",
		"e.f.zz 1 TXT t", "f.zz 1 A 1.1.1.1", "zz 1 MX 1 f.zz", "d.zz 1 CNAME x.cut.zz", "r.zz 1 CNAME r.zz", "ff.zz 1 TXT t"), "\n"), "\n")
	names := namesOf(strings.Join(l, "\n"))
	first := everything(mustParse(t, lines(l...)), names)
	source := rand.New(rand.NewSource(1))
	for range 50 {
		rest := l[2:]
		source.Shuffle(len(rest), func(i, j int) { rest[i], rest[j] = rest[j], rest[i] })
		if got := everything(mustParse(t, lines(l...)), names); got != first {
			t.Fatalf("P3: with the lines %q other answers:\n%s", l, got)
		}
	}
}

// P2: what a caller does with a list, or its spare room, is seen nowhere else.
func TestListsAreNew(t *testing.T) {
	text := head + lines("n.zz 1 A 1.1.1.1", "n.zz 1 A 1.1.1.2", "zz 1 MX 1 n.zz", "cut.zz 1 NS n.zz", "*.s.zz 1 MX 1 n.zz", "l.zz 1 CNAME x.cut.zz", "*.s.zz 1 TXT t")
	z := mustParse(t, text)
	names := namesOf(text)
	first := everything(z, names)
	spoil := func(list []api.Record) {
		list = list[:cap(list)]
		for i := range list {
			list[i] = api.Record{Owner: "spoilt"}
		}
	}
	for _, name := range names {
		for _, kind := range kinds {
			a, _ := z.Lookup(name, kind)
			b, _ := z.Lookup(name, kind)
			before := told(b)
			spoil(a.Answer)
			spoil(a.Authority)
			if told(api.Answer{Additional: a.Additional}) != told(api.Answer{Additional: b.Additional}) {
				t.Fatalf("P2: lists of Lookup(%q, %d) share memory", name, kind)
			}
			spoil(a.Additional)
			if told(b) != before {
				t.Fatalf("P2: two answers of Lookup(%q, %d) share memory", name, kind)
			}
		}
	}
	if got := everything(z, names); got != first {
		t.Errorf("P2: the zone shares memory with its answers:\n%s", got)
	}
}

// P2: neither other zones nor calls ahead or beside are seen in an answer.
func TestAnswersDependOnArguments(t *testing.T) {
	z, names := mustParse(t, example), namesOf(example)
	first := everything(z, names)
	mustParse(t, head)
	var group sync.WaitGroup
	for range 8 {
		group.Add(1)
		go func() {
			defer group.Done()
			if everything(z, names) != first {
				t.Error("P2: another answer to the same question")
			}
		}()
	}
	group.Wait()
	if everything(mustParse(t, strings.Clone(example)), names) != first {
		t.Error("P2: another answer of the same zone")
	}
}

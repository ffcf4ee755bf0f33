package names

import (
	"slices"
	"strings"
	"testing"
)

func TestValid(t *testing.T) {
	longest := strings.Repeat("a.", 29) + "bc"
	for _, text := range []string{
		"a", "org", "example.org", "a-b_9.z", "-", "_", "0", "*", "*.a", "*.b-",
		strings.Repeat("a", 20), longest, "*." + strings.Repeat("a.", 28) + "bc",
	} {
		if !Valid(text) {
			t.Errorf("%q is a name", text)
		}
		if Plain(text) != !strings.Contains(text, "*") {
			t.Errorf("Plain(%q) = %t", text, Plain(text))
		}
	}
	for _, text := range []string{
		"", ".", "a.", ".a", "a..b", "A", "a b", "a\n", "a\x00", "\xc3\xa4", "a.*", "a.*.b", "**", "*a", "a*", "*.", "*.*",
		"/", ":", "`", "{", "@", "[", strings.Repeat("a", 21), "b." + strings.Repeat("a", 21), longest + "d", strings.Repeat("a", 100000),
	} {
		if Valid(text) || Plain(text) {
			t.Errorf("%q is no name", text)
		}
	}
}

func TestUnder(t *testing.T) {
	for _, c := range []struct {
		name, other string
		want        bool
	}{
		{"a.b", "a.b", true}, {"x.a.b", "a.b", true}, {"x.y.a.b", "a.b", true}, {"*.b", "b", true},
		{"b", "a.b", false}, {"xa.b", "a.b", false}, {"a.b.x", "a.b", false}, {"a", "b", false}, {"a", "", false},
	} {
		if got := Under(c.name, c.other); got != c.want {
			t.Errorf("Under(%q, %q) = %t", c.name, c.other, got)
		}
	}
}

func TestEnds(t *testing.T) {
	for _, c := range []struct {
		name string
		want []string
	}{
		{"", nil}, {"a", []string{"a"}}, {"a.bc.d", []string{"a.bc.d", "bc.d", "d"}}, {"*.a", []string{"*.a", "a"}},
	} {
		ends := Ends(c.name)
		// An iterator tells the same each time it is ranged over.
		for range 2 {
			if got := slices.Collect(ends); !slices.Equal(got, c.want) {
				t.Errorf("Ends(%q) = %q", c.name, got)
			}
		}
		if got := slices.Collect(Ancestors(c.name)); !slices.Equal(got, c.want[min(1, len(c.want)):]) {
			t.Errorf("Ancestors(%q) = %q", c.name, got)
		}
	}
	for end := range Ends("a.b.c") {
		if end == "b.c" {
			break
		}
	}
}

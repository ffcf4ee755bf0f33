package names

import (
	"slices"
	"strings"
	"testing"
)

func TestValid(t *testing.T) {
	longest := strings.Repeat("a.", 29) + "bc"
	for _, text := range []string{
		"a", "org", "example.org", "a-b_9.z", "-", "_", "0", "*", "*.a", "*.b-",
		strings.Repeat("a", 20), longest, "*." + strings.Repeat("a.", 28) + "bc",
	} {
		if !Valid(text) {
			t.Errorf("%q is a name", text)
		}
		if Plain(text) != !strings.Contains(text, "*") {
			t.Errorf("Plain(%q) = %t", text, Plain(text))
		}
	}
	for _, text := range []string{
		"", ".", "a.", ".a", "a..b", "A", "a b", "a\n", "a\x00", "\xc3\xa4", "a.*", "a.*.b", "**", "*a", "a*", "*.", "*.*",
		"/", ":", "`", "{", "@", "[", strings.Repeat("a", 21), "b." + strings.Repeat("a", 21), longest + "d", strings.Repeat("a", 100000),
	} {
		if Valid(text) || Plain(text) {
			t.Errorf("%q is no name", text)
		}
	}
}

func TestUnder(t *testing.T) {
	for _, c := range []struct {
		name, other string
		want        bool
	}{
		{"a.b", "a.b", true}, {"x.a.b", "a.b", true}, {"x.y.a.b", "a.b", true}, {"*.b", "b", true},
		{"b", "a.b", false}, {"xa.b", "a.b", false}, {"a.b.x", "a.b", false}, {"a", "b", false}, {"a", "", false},
	} {
		if got := Under(c.name, c.other); got != c.want {
			t.Errorf("Under(%q, %q) = %t", c.name, c.other, got)
		}
	}
}

func TestFromLabels(t *testing.T) {
	for _, c := range []struct {
		labels []string
		want   string
	}{
		{nil, ""}, {[]string{"a"}, "a"}, {[]string{"WeB", "eXample", "ORG"}, "web.example.org"}, {[]string{"AZ", "@[`{"}, "az.@[`{"},
		{[]string{"*", "a"}, "*.a"}, {[]string{"\x00\xff\xc1 ", "0-_9"}, "\x00\xff\xc1 .0-_9"},
	} {
		if got := FromLabels(c.labels...); got != c.want {
			t.Errorf("FromLabels(%q) = %q, want %q", c.labels, got, c.want)
		}
	}
	// Labels that are not the same have not the same text.
	texts := map[string][]string{}
	for _, labels := range [][]string{
		{"a", "b"}, {"a.b"}, {"apb"}, {"a", "", "b"}, {"a..b"}, {"ab"}, {"a", "b", "c"}, {"a.b", "c"}, {"a", "b.c"}, {"a.b.c"}, {"a,b"}, {"."}, {"p"}, {".", "."}, {"..", "."}, {"\xae"},
	} {
		text := FromLabels(labels...)
		if other, ok := texts[text]; ok {
			t.Errorf("%q and %q have the text %q", labels, other, text)
		}
		texts[text] = labels
		if len(text) != len(strings.Join(labels, ".")) {
			t.Errorf("FromLabels(%q) = %q: another length", labels, text)
		}
	}
	if Valid(FromLabels("a.b")) {
		t.Error("a label with a point is a name")
	}
	if FromLabels("a.B", "C") != FromLabels("A.b", "c") {
		t.Error("capital letters matter")
	}
}

func TestStar(t *testing.T) {
	if got := Star("a.b"); got != "*.a.b" || !Starred(got) || Starred("a.b") {
		t.Errorf("Star(a.b) = %q", got)
	}
}

func TestFirst(t *testing.T) {
	for name, want := range map[string]string{"": "", "a": "a", "ab.c.d": "ab", "*.a": "*"} {
		if got := First(name); got != want {
			t.Errorf("First(%q) = %q", name, got)
		}
	}
}

func TestEnds(t *testing.T) {
	for _, c := range []struct {
		name string
		want []string
	}{
		{"", nil}, {"a", []string{"a"}}, {"a.bc.d", []string{"a.bc.d", "bc.d", "d"}}, {"*.a", []string{"*.a", "a"}},
	} {
		ends := Ends(c.name)
		// An iterator tells the same each time it is ranged over.
		for range 2 {
			if got := slices.Collect(ends); !slices.Equal(got, c.want) {
				t.Errorf("Ends(%q) = %q", c.name, got)
			}
		}
		if got := slices.Collect(Ancestors(c.name)); !slices.Equal(got, c.want[min(1, len(c.want)):]) {
			t.Errorf("Ancestors(%q) = %q", c.name, got)
		}
	}
	for end := range Ends("a.b.c") {
		if end == "b.c" {
			break
		}
	}
}

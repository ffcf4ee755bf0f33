package records

import (
	"slices"
	"strconv"
	"testing"

	"beacon/api"
)

func record(owner string, kind int, data string) api.Record {
	return api.Record{Owner: owner, Type: kind, Data: data}
}

func told(list []api.Record) string {
	s := ""
	for _, r := range list {
		s += r.Owner + strconv.Itoa(r.Type) + r.Data + " "
	}
	return s
}

func sample() []api.Record {
	return []api.Record{record("a", 1, "x"), record("a", 1, "y"), record("a", 2, "x"), record("b", 2, "x"), record("a", 1, "z")}
}

func TestSets(t *testing.T) {
	var got []string
	for set := range Sets(sample()) {
		got = append(got, told(set))
		if cap(set) != len(set) {
			t.Errorf("the set %q has room in the next one", told(set))
		}
	}
	if want := []string{"a1x a1y ", "a2x ", "b2x ", "a1z "}; !slices.Equal(got, want) {
		t.Errorf("Sets: %q, want %q", got, want)
	}
	for range Sets(nil) {
		t.Error("a set of nothing")
	}
	for set := range Sets(sample()) {
		if set[0].Type == 2 {
			break
		}
	}
}

func TestOwners(t *testing.T) {
	var got []string
	for owner, list := range Owners(sample()) {
		got = append(got, owner+": "+told(list))
	}
	if want := []string{"a: a1x a1y a2x ", "b: b2x ", "a: a1z "}; !slices.Equal(got, want) {
		t.Errorf("Owners: %q, want %q", got, want)
	}
	for range Owners(nil) {
		t.Error("an owner of nothing")
	}
	for owner := range Owners(sample()) {
		if owner == "b" {
			break
		}
	}
}

func sortedSample() []api.Record {
	list := append(sample(), record("c.a", 1, "x"), record("d.c.a", 1, "x"), record("ca", 1, "x"), record("*.b", 1, "x"))
	Sort(list)
	return list
}

func TestSort(t *testing.T) {
	if got, want := told(sortedSample()), "*.b1x a1x a1y a1z a2x b2x c.a1x ca1x d.c.a1x "; got != want {
		t.Errorf("Sort: %q, want %q", got, want)
	}
	// It keeps the order of one owner and type.
	list := []api.Record{record("b", 1, "y"), record("a", 2, "z"), record("b", 1, "x"), record("a", 1, "y"), record("a", 2, "x"), record("a", 1, "x")}
	Sort(list)
	if got, want := told(list), "a1y a1x a2z a2x b1y b1x "; got != want {
		t.Errorf("Sort: %q, want %q", got, want)
	}
}

func TestUnder(t *testing.T) {
	for name, want := range map[string]string{"a": "a: a1x a1y a1z a2x |c.a: c.a1x |d.c.a: d.c.a1x |", "c.a": "c.a: c.a1x |d.c.a: d.c.a1x |", "b": "*.b: *.b1x |b: b2x |", "x": ""} {
		got := ""
		for owner, own := range Under(sortedSample(), name) {
			got += owner + ": " + told(own) + "|"
		}
		if got != want {
			t.Errorf("Under %q: %q, want %q", name, got, want)
		}
	}
	for owner := range Under(sortedSample(), "a") {
		if owner == "c.a" {
			break
		}
	}
}

func TestOfAndSet(t *testing.T) {
	list := sortedSample()
	if got := told(Of(list, "a")); got != "a1x a1y a1z a2x " {
		t.Errorf("Of a: %q", got)
	}
	if got := told(Of(list, "c")) + told(Of(nil, "a")); got != "" {
		t.Errorf("Of c: %q", got)
	}
	if got := told(Set(list, "a", 1)) + "|" + told(Set(list, "a", 2)); got != "a1x a1y a1z |a2x " {
		t.Errorf("Set of a: %q", got)
	}
	if got := told(Set(list, "a", 3)) + told(Set(list, "c", 1)); got != "" {
		t.Errorf("Set of what is not there: %q", got)
	}
}

package records

import (
	"slices"
	"strconv"
	"testing"

	"beacon/api"
)

func record(owner string, kind int, data string) api.Record {
	return api.Record{Owner: owner, Type: kind, Data: data}
}

func told(list []api.Record) string {
	s := ""
	for _, r := range list {
		s += r.Owner + strconv.Itoa(r.Type) + r.Data + " "
	}
	return s
}

func sample() []api.Record {
	return []api.Record{record("a", 1, "x"), record("a", 1, "y"), record("a", 2, "x"), record("b", 2, "x"), record("a", 1, "z")}
}

func TestSets(t *testing.T) {
	var got []string
	for set := range Sets(sample()) {
		got = append(got, told(set))
		if cap(set) != len(set) {
			t.Errorf("the set %q has room in the next one", told(set))
		}
	}
	if want := []string{"a1x a1y ", "a2x ", "b2x ", "a1z "}; !slices.Equal(got, want) {
		t.Errorf("Sets: %q, want %q", got, want)
	}
	for range Sets(nil) {
		t.Error("a set of nothing")
	}
	for set := range Sets(sample()) {
		if set[0].Type == 2 {
			break
		}
	}
}

func TestOwners(t *testing.T) {
	var got []string
	for owner, list := range Owners(sample()) {
		got = append(got, owner+": "+told(list))
	}
	if want := []string{"a: a1x a1y a2x ", "b: b2x ", "a: a1z "}; !slices.Equal(got, want) {
		t.Errorf("Owners: %q, want %q", got, want)
	}
	for range Owners(nil) {
		t.Error("an owner of nothing")
	}
	for owner := range Owners(sample()) {
		if owner == "b" {
			break
		}
	}
}

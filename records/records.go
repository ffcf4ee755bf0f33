// Package records goes through lists of records.
package records

import (
	"cmp"
	"iter"
	"slices"

	"beacon/api"
	"beacon/names"
)

// Sort puts the records of one owner together, by rising types. It is stable,
// for those of one owner and type keep the order of the text.
func Sort(list []api.Record) {
	slices.SortStableFunc(list, func(a, b api.Record) int {
		return cmp.Or(cmp.Compare(a.Owner, b.Owner), cmp.Compare(a.Type, b.Type))
	})
}

// Sets gives all RRsets of a list: records of one owner and type that stand
// side by side. They are pieces of the list, not copies.
func Sets(list []api.Record) iter.Seq[[]api.Record] {
	return runs(list, func(a, b api.Record) bool {
		return a.Owner == b.Owner && a.Type == b.Type
	})
}

// Owners gives all owners of a list, each with its records that stand side by
// side. These are pieces of the list, not copies.
func Owners(list []api.Record) iter.Seq2[string, []api.Record] {
	return func(yield func(string, []api.Record) bool) {
		sameOwner := func(a, b api.Record) bool { return a.Owner == b.Owner }
		for run := range runs(list, sameOwner) {
			if !yield(run[0].Owner, run) {
				return
			}
		}
	}
}

// Under gives all names under one that are owners in a sorted list, each with
// its records.
func Under(list []api.Record, name string) iter.Seq2[string, []api.Record] {
	return func(yield func(string, []api.Record) bool) {
		for owner, own := range Owners(list) {
			if names.Under(owner, name) && !yield(owner, own) {
				return
			}
		}
	}
}

// Of gives an owner's records in a sorted list, as a piece of it.
func Of(list []api.Record, name string) []api.Record {
	for owner, own := range Owners(list) {
		if owner == name {
			return own
		}
	}
	return nil
}

// Set gives an owner's records of one type in a sorted list, as a piece of it.
func Set(list []api.Record, name string, kind int) []api.Record {
	for set := range Sets(Of(list, name)) {
		if set[0].Type == kind {
			return set
		}
	}
	return nil
}

func runs(list []api.Record, same func(a, b api.Record) bool) iter.Seq[[]api.Record] {
	return func(yield func([]api.Record) bool) {
		for start := 0; start < len(list); {
			end := start + 1
			for end < len(list) && same(list[start], list[end]) {
				end++
			}
			// Its room ends with it: nobody appends into the next one.
			if !yield(list[start:end:end]) {
				return
			}
			start = end
		}
	}
}

// Package records goes through lists of records.
package records

import (
	"iter"

	"beacon/api"
)

// Sets gives all RRsets of a list: records of one owner and type that stand
// side by side. They are pieces of the list, not copies.
func Sets(list []api.Record) iter.Seq[[]api.Record] {
	return runs(list, func(a, b api.Record) bool {
		return a.Owner == b.Owner && a.Type == b.Type
	})
}

// Owners gives all owners of a list, each with its records that stand side by
// side. These are pieces of the list, not copies.
func Owners(list []api.Record) iter.Seq2[string, []api.Record] {
	return func(yield func(string, []api.Record) bool) {
		sameOwner := func(a, b api.Record) bool { return a.Owner == b.Owner }
		for run := range runs(list, sameOwner) {
			if !yield(run[0].Owner, run) {
				return
			}
		}
	}
}

func runs(list []api.Record, same func(a, b api.Record) bool) iter.Seq[[]api.Record] {
	return func(yield func([]api.Record) bool) {
		for start := 0; start < len(list); {
			end := start + 1
			for end < len(list) && same(list[start], list[end]) {
				end++
			}
			// Its room ends with it: nobody appends into the next one.
			if !yield(list[start:end:end]) {
				return
			}
			start = end
		}
	}
}

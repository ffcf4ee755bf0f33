package zone

import (
	"slices"

	"beacon/api"
	"beacon/names"
	"beacon/records"
)

// startsRight tells what hangs on the text's order: how many records there
// are, and that the first one, and no other, is the origin's SOA.
func startsRight(origin string, list []api.Record) bool {
	if len(list) == 0 || len(list) > api.MaxRecords {
		return false
	}
	return list[0].Owner == origin && list[0].Type == api.SOA && !has(list[1:], api.SOA)
}

// isRight tells what does not hang on the text's order, of a sorted list.
func isRight(origin string, list []api.Record) bool {
	for set := range records.Sets(list) {
		if !isRightSet(set) {
			return false
		}
	}
	for owner, own := range records.Owners(list) {
		if !names.Under(owner, origin) || has(own, api.CNAME) && len(own) > 1 {
			return false
		}
		if owner != origin && has(own, api.NS) && !isRightCut(owner, list) {
			return false
		}
	}
	return len(records.Set(list, origin, api.NS)) > 0
}

// isRightSet tells whether an RRset has one TTL and no record twice.
func isRightSet(set []api.Record) bool {
	for i, r := range set {
		if r.TTL != set[0].TTL || slices.Contains(set[:i], r) {
			return false
		}
	}
	return true
}

// isRightCut tells whether a cut has but NS, what is under it but A, and none
// of them a star.
func isRightCut(cut string, list []api.Record) bool {
	for owner, own := range records.Under(list, cut) {
		kind := api.A
		if owner == cut {
			kind = api.NS
		}
		other := func(r api.Record) bool { return r.Type != kind }
		if names.Starred(owner) || slices.ContainsFunc(own, other) {
			return false
		}
	}
	return true
}

func has(list []api.Record, kind int) bool {
	return slices.ContainsFunc(list, func(r api.Record) bool { return r.Type == kind })
}

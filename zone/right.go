package zone

import (
	"cmp"
	"slices"

	"beacon/api"
	"beacon/names"
	"beacon/records"
)

// startsRight tells what hangs on the text's order: how many records there
// are, and that the first one, and no other, is the origin's SOA.
func startsRight(origin string, list []api.Record) bool {
	if len(list) == 0 || len(list) > api.MaxRecords {
		return false
	}
	return list[0].Owner == origin && list[0].Type == api.SOA && !has(list[1:], api.SOA)
}

// sorted puts RRsets together. It is stable, for those of one owner and type
// keep the order of the text.
func sorted(list []api.Record) []api.Record {
	slices.SortStableFunc(list, func(a, b api.Record) int {
		return cmp.Or(cmp.Compare(a.Owner, b.Owner), cmp.Compare(a.Type, b.Type))
	})
	return list
}

// isRight tells what does not hang on the text's order.
func (z *Zone) isRight() bool {
	for set := range records.Sets(z.list) {
		if !isRightSet(set) {
			return false
		}
	}
	for owner, list := range records.Owners(z.list) {
		if !z.isRightOwner(owner, list) {
			return false
		}
	}
	return len(z.set(z.origin, api.NS)) > 0
}

// isRightSet tells whether an RRset has one TTL and no record twice.
func isRightSet(set []api.Record) bool {
	for i, r := range set {
		if r.TTL != set[0].TTL || slices.Contains(set[:i], r) {
			return false
		}
	}
	return true
}

func (z *Zone) isRightOwner(owner string, list []api.Record) bool {
	if !names.Under(owner, z.origin) {
		return false
	}
	if has(list, api.CNAME) && len(list) > 1 {
		return false
	}
	return owner == z.origin || !has(list, api.NS) || z.isRightCut(owner)
}

// isRightCut tells whether a cut has but NS, what is under it but A, and none
// of them a star.
func (z *Zone) isRightCut(cut string) bool {
	for owner, list := range z.under(cut) {
		kind := api.A
		if owner == cut {
			kind = api.NS
		}
		if names.Starred(owner) || len(setOf(list, kind)) != len(list) {
			return false
		}
	}
	return true
}

func has(list []api.Record, kind int) bool {
	return slices.ContainsFunc(list, func(r api.Record) bool { return r.Type == kind })
}

// Package zone: zones and what they answer: see DOC.md, P3.
package zone

import (
	"iter"
	"strings"

	"beacon/api"
	"beacon/names"
	"beacon/records"
)

// maxKind is the greatest type that can be asked for.
const maxKind = 65535

// Zone has records.
type Zone struct {
	origin string
	// list has the records of one owner side by side, by rising types, and
	// those of one owner and type in the order of the text.
	list []api.Record
}

// Parse reads a zone.
func Parse(text string) (*Zone, api.Errno) {
	if len(text) > api.MaxZone {
		return nil, api.ErrZone
	}
	// The zone outlives the call, so that it keeps a text of its own.
	origin, list, ok := readZone(strings.Clone(text))
	if !ok || !startsRight(origin, list) {
		return nil, api.ErrZone
	}
	z := &Zone{origin: origin, list: sorted(list)}
	if !z.isRight() {
		return nil, api.ErrZone
	}
	return z, api.OK
}

// Lookup tells what a zone answers.
func (z *Zone) Lookup(name string, kind int) (api.Answer, api.Errno) {
	if !names.Plain(name) || kind < 1 || kind > maxKind {
		return api.Answer{}, api.ErrName
	}
	if z == nil {
		// What Parse gives beside an error: no name is under its origin.
		z = &Zone{}
	}
	// The answer may tell the name as an owner, and shares none with an argument.
	return z.answer(strings.Clone(name), kind), api.OK
}

// under gives all names under one that have records, and these.
func (z *Zone) under(name string) iter.Seq2[string, []api.Record] {
	return func(yield func(string, []api.Record) bool) {
		for owner, list := range records.Owners(z.list) {
			if names.Under(owner, name) && !yield(owner, list) {
				return
			}
		}
	}
}

// isThere tells whether a name, or one under it, has records.
func (z *Zone) isThere(name string) bool {
	for range z.under(name) {
		return true
	}
	return false
}

// of gives a name's records: a piece of the zone's list.
func (z *Zone) of(name string) []api.Record {
	for owner, list := range records.Owners(z.list) {
		if owner == name {
			return list
		}
	}
	return nil
}

// set gives a name's records of one type: a piece of the zone's list.
func (z *Zone) set(name string, kind int) []api.Record {
	return setOf(z.of(name), kind)
}

func setOf(list []api.Record, kind int) []api.Record {
	for set := range records.Sets(list) {
		if set[0].Type == kind {
			return set
		}
	}
	return nil
}

// Package zone: zones and what they answer: see DOC.md, P3.
package zone

import (
	"strings"

	"beacon/api"
	"beacon/lookup"
	"beacon/names"
	"beacon/records"
)

// maxKind is the greatest type that can be asked for.
const maxKind = 65535

// Zone has records. Messages ask for names that are no texts, which Lookup
// refuses: package wire turns a zone into the table that it is, and asks that.
type Zone lookup.Table

// Parse reads a zone.
func Parse(text string) (*Zone, api.Errno) {
	if len(text) > api.MaxZone {
		return nil, api.ErrZone
	}
	// The zone outlives the call, so that it keeps a text of its own.
	origin, list, ok := readZone(strings.Clone(text))
	if !ok || !startsRight(origin, list) {
		return nil, api.ErrZone
	}
	records.Sort(list)
	if !isRight(origin, list) {
		return nil, api.ErrZone
	}
	return (*Zone)(lookup.New(origin, list)), api.OK
}

// Lookup tells what a zone answers.
func (z *Zone) Lookup(name string, kind int) (api.Answer, api.Errno) {
	if !names.Plain(name) || kind < 1 || kind > maxKind {
		return api.Answer{}, api.ErrName
	}
	// The answer may tell the name as an owner, and shares none with an argument.
	return (*lookup.Table)(z).Answer(strings.Clone(name), kind), api.OK
}

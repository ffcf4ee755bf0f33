// Package lookup tells what a zone's records answer to a name of any labels.
package lookup

import (
	"beacon/api"
	"beacon/records"
)

// Table has the records of a right zone.
type Table struct {
	origin string
	list   []api.Record
}

// New makes a table of the records of a right zone, sorted by records.Sort.
// It keeps the list.
func New(origin string, list []api.Record) *Table {
	return &Table{origin: origin, list: list}
}

// of gives a name's records: a piece of the table's list.
func (t *Table) of(name string) []api.Record {
	return records.Of(t.list, name)
}

// set gives a name's records of one type: a piece of the table's list.
func (t *Table) set(name string, kind int) []api.Record {
	return records.Set(t.list, name, kind)
}

// isThere tells whether a name, or one under it, has records.
func (t *Table) isThere(name string) bool {
	for range records.Under(t.list, name) {
		return true
	}
	return false
}

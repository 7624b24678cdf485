package table

// SetDropped makes a table as if a number, of which there is none now, had been dropped at a version: no test has the
// time for two thousand million calls.
func SetDropped(t *Table, id, version int) { t.dropped[id] = version }

package plain

import "breakwater/api"

// The blocks from secondTables on are led to by two tables: the double one, and one of those to which it leads.
const secondTables = api.Direct + api.PerSector

// Tables are counted as blocks are, by numbers behind those of all blocks.
const (
	singleTable = api.MaxBlocks + iota
	doubleTable
	innerTables // the first of those to which the double one leads
)

// tally is a count of the sectors that blocks take, with the tables that lead to them.
type tally struct {
	counted [innerTables + api.PerSector]bool
	sectors int
}

// add counts a block, and its tables; what was counted is not counted again.
func (t *tally) add(k int) {
	t.count(k)
	switch {
	case k >= secondTables:
		t.count(doubleTable)
		t.count(innerTables + (k-secondTables)/api.PerSector)
	case k >= api.Direct:
		t.count(singleTable)
	}
}

func (t *tally) count(number int) {
	if !t.counted[number] {
		t.counted[number] = true
		t.sectors++
	}
}

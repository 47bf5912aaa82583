// Package timetable: which turn or gap a cycle belongs to (P4). It knows nothing of what the wards do.
package timetable

// Table is how a round goes: each ward's turn, with a gap behind it.
type Table struct {
	Gap    int
	Quanta []int // for each ward how many cycles its turn has
}

// Slot is where a cycle stands in its round.
type Slot struct {
	Ward  int  // whose turn it is; in a gap: whose turn is over
	Gap   bool // whether the cycle is one of a gap
	First bool // whether it is the gap's first one
	Last  bool // whether it is the gap's last one
}

// At tells where a cycle stands. Cycles are numbered from 0 on.
func (t Table) At(cycle int) Slot {
	rest := cycle % t.round()
	ward := 0
	for rest >= t.Quanta[ward]+t.Gap {
		rest -= t.Quanta[ward] + t.Gap
		ward++
	}
	if rest < t.Quanta[ward] {
		return Slot{Ward: ward}
	}
	rest -= t.Quanta[ward]
	return Slot{Ward: ward, Gap: true, First: rest == 0, Last: rest == t.Gap-1}
}

// round tells how many cycles a round has.
func (t Table) round() int {
	cycles := 0
	for _, quantum := range t.Quanta {
		cycles += quantum + t.Gap
	}
	return cycles
}

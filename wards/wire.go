package wards

import (
	"wards/layout"
	"wards/plan"
)

// Where the words of a cell lie.
const (
	fullAt = iota
	wordAt
)

// wire is a wire with its cell, which lies in the memory itself.
type wire struct {
	plan.Wire
	cell []uint32
}

// wire gives the wire that a word names, if it names one.
func (x *Kernel) wire(number uint32) (wire, bool) {
	if number >= uint32(len(x.wires)) {
		return wire{}, false
	}
	at := layout.Cell(len(x.wards), int(number))
	return wire{x.wires[number], x.memory[at : at+layout.CellWords]}, true
}

func (w wire) full() bool { return w.cell[fullAt] != 0 }

// fill gives the cell a word.
func (w wire) fill(word uint32) {
	w.cell[fullAt] = 1
	w.cell[wordAt] = word
}

// empty takes the cell's word, which it keeps all the same.
func (w wire) empty() uint32 {
	w.cell[fullAt] = 0
	return w.cell[wordAt]
}

package wards

import (
	"wards/layout"
	"wards/timetable"
)

// cycle does one cycle, and ends with the clock: what happens in a cycle sees how many were done ahead of it.
func (x *Kernel) cycle() {
	slot := x.table.At(x.clock)
	if slot.Gap {
		x.change(slot)
	} else {
		x.wards[slot.Ward].Cycle(turn{x, slot.Ward})
	}
	x.clock++
	x.memory[layout.Clock] = uint32(x.clock)
}

// change does a cycle of a gap (P6). In a gap of one cycle a ward is saved and the next one loaded, in this order.
func (x *Kernel) change(slot timetable.Slot) {
	if slot.First {
		x.endTurn(slot.Ward)
	}
	if slot.Last {
		x.beginTurn((slot.Ward + 1) % len(x.wards))
	}
}

// endTurn saves a ward.
func (x *Kernel) endTurn(number int) {
	w := &x.wards[number]
	w.Yielded = false
	w.Save(x.area(number))
	x.memory[layout.Turn] = uint32(len(x.wards))
}

// beginTurn loads a ward.
func (x *Kernel) beginTurn(number int) {
	x.wards[number].Load(x.area(number))
	x.memory[layout.Turn] = uint32(number)
}

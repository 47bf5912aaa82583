package wards

import (
	"wards/layout"
	"wards/plan"
	"wards/processor"
)

// ward is what the kernel has of a ward. Its state counts in its turn only; else its save area does.
type ward struct {
	processor.State
	regions []plan.Region
	devices []int // the numbers of those it owns, rising
}

// find tells which word of the memory an address of the ward is, if it stands in one of its regions.
func (w *ward) find(address uint32) (int, bool) { return w.findWith(0, address) }

// findWith does so, if the region has these rights.
func (w *ward) findWith(rights int, address uint32) (int, bool) {
	for _, r := range w.regions {
		if at, ok := r.Find(address); ok && r.Rights&rights == rights {
			return at, true
		}
	}
	return 0, false
}

// report is what is told of a ward.
type report struct {
	processor.State
}

// hasWard tells whether there is a ward of this number.
func (x *Kernel) hasWard(number int) bool { return number >= 0 && number < len(x.wards) }

// area gives a ward's save area, in the memory itself.
func (x *Kernel) area(number int) []uint32 {
	at := layout.Area(number)
	return x.memory[at : at+layout.AreaWords]
}

// inTurn tells whether it is this ward's turn.
func (x *Kernel) inTurn(number int) bool { return x.memory[layout.Turn] == uint32(number) }

// report gives how a ward is now.
func (x *Kernel) report(number int) report {
	var r report
	if x.inTurn(number) {
		r.State = x.wards[number].State
	} else {
		r.Load(x.area(number))
	}
	return r
}

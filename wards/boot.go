package wards

import (
	"wards/plan"
	"wards/processor"
	"wards/timetable"
)

// start makes the machine that a plan tells of. A new memory is all noughts, which is what the clock's word, the cells
// and the turn of ward 0 ask for: only the wards' own words are left to write. New devices have latched 0, too.
func start(p plan.Plan) *Kernel {
	x := &Kernel{
		memory:  make([]uint32, p.Memory),
		table:   timetable.Table{Gap: p.Gap},
		wires:   p.Wires,
		devices: make([]device, len(p.Owners)),
	}
	for i, w := range p.Wards {
		x.table.Quanta = append(x.table.Quanta, w.Quantum)
		x.wards = append(x.wards, ward{State: processor.Begin(w.Begin), regions: w.Regions})
		x.wards[i].Save(x.area(i))
		copy(x.memory[w.Regions[0].Base:], w.Program)
	}
	for number, owner := range p.Owners {
		w := &x.wards[owner]
		w.devices = append(w.devices, number)
	}
	return x
}

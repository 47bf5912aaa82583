// Package processor: what the processor has while a ward's turn lasts.
package processor

import "wards/api"

// Registers is how many registers the processor has.
const Registers = 8

// Where the words of a save area lie that stand behind the registers.
const (
	placeAt = Registers + iota
	statusAt
	causeAt
	busyAt
	yieldedAt
)

// State is what the processor has; a ward, and what is told of it, embed it.
type State struct {
	Regs    [Registers]uint32
	Place   uint32
	Status  int
	Cause   int
	Busy    int
	Yielded bool
}

// Begin gives the state of a ward that has done nothing yet.
func Begin(place uint32) State {
	return State{Place: place, Status: api.Running, Cause: api.None}
}

// Save writes the state into a save area. The area's last words are never written: they stay noughts.
func (s *State) Save(area []uint32) {
	copy(area, s.Regs[:])
	area[placeAt] = s.Place
	area[statusAt] = uint32(s.Status)
	area[causeAt] = uint32(s.Cause)
	area[busyAt] = uint32(s.Busy)
	area[yieldedAt] = 0
	if s.Yielded {
		area[yieldedAt] = 1
	}
}

// Load takes the state out of a save area.
func (s *State) Load(area []uint32) {
	copy(s.Regs[:], area)
	s.Place = area[placeAt]
	s.Status = int(area[statusAt])
	s.Cause = int(area[causeAt])
	s.Busy = int(area[busyAt])
	s.Yielded = area[yieldedAt] != 0
}

// View gives the state as it is told outside.
func (s *State) View() api.View {
	return api.View{
		Regs:    s.Regs,
		Place:   s.Place,
		Status:  s.Status,
		Cause:   s.Cause,
		Busy:    s.Busy,
		Yielded: s.Yielded,
	}
}

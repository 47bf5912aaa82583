package processor

import (
	"slices"
	"testing"

	"wards/api"
)

func some() State {
	return State{Regs: [8]uint32{1, 2, 3, 4, 5, 6, 7, 1<<32 - 1}, Place: 300, Status: api.Parked, Cause: api.Foreign, Busy: 4, Yielded: true}
}

func TestSaveWritesTheAreaInItsOrder(t *testing.T) {
	area := make([]uint32, 16)
	s := some()
	s.Save(area)
	if want := []uint32{1, 2, 3, 4, 5, 6, 7, 1<<32 - 1, 300, 2, 5, 4, 1, 0, 0, 0}; !slices.Equal(area, want) {
		t.Errorf("Words: the save area is %v, want %v", area, want)
	}
	s.Yielded = false
	s.Save(area)
	if area[12] != 0 {
		t.Errorf("Words: a ward that has not yielded: the word 12 of its save area is %d", area[12])
	}
}

func TestLoadGivesWhatWasSaved(t *testing.T) {
	area := make([]uint32, 16)
	for _, s := range []State{some(), Begin(0), Begin(0xffff)} {
		s.Save(area)
		got := some()
		got.Load(area)
		if got != s {
			t.Errorf("Words: loaded %+v, want %+v", got, s)
		}
	}
}

func TestBegin(t *testing.T) {
	if s := Begin(7); s != (State{Place: 7, Status: 0, Cause: 0}) {
		t.Errorf("P3: a ward begins as %+v", s)
	}
}

func TestViewTellsAll(t *testing.T) {
	s := some()
	want := api.View{Regs: [8]uint32{1, 2, 3, 4, 5, 6, 7, 1<<32 - 1}, Place: 300, Status: 2, Cause: 5, Busy: 4, Yielded: true}
	if v := s.View(); v != want {
		t.Errorf("P8: the view is %+v, want %+v", v, want)
	}
}

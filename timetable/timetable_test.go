package timetable

import (
	"math"
	"slices"
	"testing"
)

// slots gives the first slots of a table.
func slots(t Table, count int) []Slot {
	var l []Slot
	for cycle := range count {
		l = append(l, t.At(cycle))
	}
	return l
}

func TestARoundOfSeveralWards(t *testing.T) {
	table := Table{Gap: 3, Quanta: []int{2, 1, 4}}
	want := []Slot{
		{Ward: 0}, {Ward: 0},
		{Ward: 0, Gap: true, First: true}, {Ward: 0, Gap: true}, {Ward: 0, Gap: true, Last: true},
		{Ward: 1},
		{Ward: 1, Gap: true, First: true}, {Ward: 1, Gap: true}, {Ward: 1, Gap: true, Last: true},
		{Ward: 2}, {Ward: 2}, {Ward: 2}, {Ward: 2},
		{Ward: 2, Gap: true, First: true}, {Ward: 2, Gap: true}, {Ward: 2, Gap: true, Last: true},
	}
	if got := slots(table, 2*len(want)); !slices.Equal(got, append(want, want...)) {
		t.Errorf("P4: two rounds are %+v, want twice %+v", got, want)
	}
}

func TestAGapOfOneIsFirstAndLast(t *testing.T) {
	both := Slot{Gap: true, First: true, Last: true}
	want := []Slot{{}, both, {}, both}
	if got := slots(Table{Gap: 1, Quanta: []int{1}}, len(want)); !slices.Equal(got, want) {
		t.Errorf("P4: two rounds are %+v, want %+v", got, want)
	}
}

func TestAGapOfTwoHasNothingBetween(t *testing.T) {
	want := []Slot{{}, {Gap: true, First: true}, {Gap: true, Last: true}}
	if got := slots(Table{Gap: 2, Quanta: []int{1}}, len(want)); !slices.Equal(got, want) {
		t.Errorf("P4: a round is %+v, want %+v", got, want)
	}
}

// TestLateCycles: a cycle stands where the one a number of whole rounds earlier stood, however late it is.
func TestLateCycles(t *testing.T) {
	for _, table := range []Table{
		{Gap: 16, Quanta: []int{64, 64, 64, 64}},
		{Gap: 1, Quanta: []int{1}},
		{Gap: 5, Quanta: []int{3, 64}},
	} {
		round := 0
		for _, q := range table.Quanta {
			round += q + table.Gap
		}
		rounds := math.MaxInt / round
		first := slots(table, round)
		for i, want := range first {
			for _, k := range []int{1, 2, 1000, rounds - 1} {
				if got := table.At(k*round + i); got != want {
					t.Fatalf("P4: %+v: round %d, cycle %d: %+v, want %+v", table, k, i, got, want)
				}
			}
		}
		if got, want := table.At(math.MaxInt), first[math.MaxInt%round]; got != want {
			t.Errorf("P4: %+v: the greatest cycle: %+v, want %+v", table, got, want)
		}
	}
}

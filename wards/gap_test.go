package wards

import (
	"testing"

	"wards/api"
	"wards/layout"
)

// TestWhatAGapDoes: each word of the memory behind each cycle of the gap behind ward 0's turn, for each gap there may be.
func TestWhatAGapDoes(t *testing.T) {
	program := []uint32{load(0, 50), load(7, 57), code(api.Put, 7, 1, 15), code(api.Div, 0, 7, 0)}
	for gap := 1; gap <= api.MaxGap; gap++ {
		x := boot(t, text(timed(programs(program, counter()), gap, 6, 3)))
		run(t, x, 6)
		// The turn is over, but the ward is still the processor's: Div has 3 cycles left.
		after := api.View{Regs: [8]uint32{7: 57}, Place: 4, Busy: 3}
		mustView(t, "P6: ahead of a gap", x, 0, after)
		want := words(x)
		mustHave(t, "P6: ahead of a gap", x, 0, append([]uint32{0, 6}, make([]uint32, 14+16)...)...)
		copy(want[16:], []uint32{0, 0, 0, 0, 0, 0, 0, 57, 4, 0, 0, 3, 0, 0, 0, 0})
		for cycle := 1; cycle <= gap; cycle++ {
			run(t, x, 1)
			want[0], want[1] = 2, uint32(6+cycle)
			if cycle == gap {
				want[0] = 1
			}
			why := "P6: a gap of " + decimal(gap) + ", behind its cycle " + decimal(cycle)
			mustHave(t, why, x, 0, want...)
			mustView(t, why, x, 0, after)
			mustView(t, why, x, 1, api.View{})
		}
		run(t, x, 1)
		mustView(t, "P6: ward 1's turn", x, 1, api.View{Regs: [8]uint32{1: 1}, Place: 1})
		want[1]++
		mustHave(t, "P6: ward 1's turn", x, 0, want...)
	}
}

// TestASaveAreaTellsOfTheLastTurn: it stays as it was till the next turn is over.
func TestASaveAreaTellsOfTheLastTurn(t *testing.T) {
	x := boot(t, text(timed(programs(counter(), counter()), 2, 4, 3)))
	// A round has 11 cycles. Ward 0 loads with cycle 0, and does 4 cycles a turn.
	saved := [][]uint32{{0, 0, 0}, {2, 1, 2}, {4, 1, 2}, {6, 1, 2}}
	for round := range 3 {
		for cycle := range 11 {
			area := saved[round]
			if cycle > 4 {
				area = saved[round+1]
			}
			why := "P6: round " + decimal(round) + ", ahead of cycle " + decimal(cycle)
			mustHave(t, why, x, 16, area[0], area[1], 0, 0, 0, 0, 0, 0, area[2], 0, 0, 0, 0, 0, 0, 0)
			run(t, x, 1)
		}
	}
}

// TestViewInATurnInAGapAndOfTheOthers: three wards that count, seen ahead of each cycle.
func TestViewInATurnInAGapAndOfTheOthers(t *testing.T) {
	x := boot(t, text(timed(programs(counter(), counter(), counter()), 3, 4, 5, 2)))
	done := [3]int{} // how many cycles of its turns each ward has had
	for cycle := range 5 * 20 {
		for i, n := range done {
			want := api.View{}
			if n > 0 {
				want = api.View{Regs: [8]uint32{uint32(n / 2), 1}, Place: uint32(2 - n%2)}
			}
			mustView(t, "P8: ahead of cycle "+decimal(cycle), x, i, want)
		}
		run(t, x, 1)
		switch k := cycle % 20; {
		case k < 4:
			done[0]++
		case k >= 7 && k < 12:
			done[1]++
		case k >= 15 && k < 17:
			done[2]++
		}
	}
}

// TestNotYieldedAnyMore: with the first cycle of a gap, whatever the gap; also where one ward follows itself.
func TestNotYieldedAnyMore(t *testing.T) {
	yield := []uint32{call(api.Yield), code(api.Jump, 0, 0, 0)}
	for _, list := range [][][]uint32{{yield}, {yield, yield}} {
		for _, gap := range []int{1, 2, 5} {
			x := boot(t, text(timed(programs(list...), gap, []int{3, 3}[:len(list)]...)))
			run(t, x, 3)
			mustView(t, "P5: in its turn", x, 0, api.View{Place: 1, Yielded: true})
			for cycle := range gap {
				run(t, x, 1)
				mustView(t, "P6: in a gap of "+decimal(gap)+", cycle "+decimal(cycle), x, 0, api.View{Place: 1})
				mustHave(t, "P6: in a gap of "+decimal(gap), x, 16+8, 1, 0, 0, 0, 0, 0, 0, 0)
			}
		}
	}
}

// TestLoadedOutOfTheSaveArea: what a ward goes on with is what its save area has.
func TestLoadedOutOfTheSaveArea(t *testing.T) {
	x := boot(t, text(timed(programs(counter(), counter()), 2, 3, 3)))
	run(t, x, 4)
	for i := range 2 {
		copy(x.memory[layout.Area(i):], []uint32{10, 20, 30, 40, 50, 60, 70, 80, 1, 0, 0, 2, 0})
	}
	before := api.View{Regs: [8]uint32{10, 20, 30, 40, 50, 60, 70, 80}, Place: 1, Busy: 2}
	mustView(t, "P8: in a gap", x, 0, before)
	run(t, x, 1)
	mustView(t, "P6: loaded", x, 1, before)
	run(t, x, 3)
	after := before
	after.Regs[0], after.Place, after.Busy = 30, 2, 0
	mustView(t, "P6: behind its turn", x, 1, after)
	run(t, x, 2)
	mustView(t, "P6: ward 0 behind the last ward", x, 0, before)
}

// TestTheNextWardIsLoadedAlone: with the last cycle of a gap; the others' save areas tell of them all the while.
func TestTheNextWardIsLoadedAlone(t *testing.T) {
	x := boot(t, text(timed(programs(counter(), counter(), counter(), counter()), 1, 1, 1, 1, 1)))
	for turn := range 12 {
		mustHave(t, "P6: ahead of turn "+decimal(turn), x, 0, uint32(turn%4), uint32(2*turn))
		run(t, x, 1)
		mustHave(t, "P6: behind turn "+decimal(turn), x, 0, uint32(turn%4), uint32(2*turn+1))
		run(t, x, 1)
	}
	for i := range 4 {
		mustHave(t, "P6: ward "+decimal(i), x, layout.Area(i), 1, 1, 0, 0, 0, 0, 0, 0, 1)
	}
}

package wards

import (
	"math"
	"testing"

	"wards/api"
	"wards/plan"
)

// counter counts in register 0, 2 cycles a number, from its second cycle on.
func counter() []uint32 {
	return []uint32{load(1, 1), code(api.Add, 0, 1, 0), code(api.Jump, 0, 0, 1)}
}

func TestTheDocumentsExample(t *testing.T) {
	x := boot(t, document)
	run(t, x, 3)
	mustView(t, "P5", x, 0, api.View{Regs: [8]uint32{12, 7}, Place: 3})
	if x.Clock() != 3 {
		t.Errorf("P4: the clock is %d, want 3", x.Clock())
	}
	run(t, x, 1)
	mustView(t, "P5", x, 0, api.View{Regs: [8]uint32{12, 7}, Place: 3, Status: api.Parked, Cause: api.Illegal})
	run(t, x, 5)
	mustHave(t, "P6", x, 0, 0, 9)
	mustHave(t, "P6", x, 16, 12, 7, 0, 0, 0, 0, 0, 0, 3, 2, 1, 0, 0, 0, 0, 0)
	if x.Clock() != 9 {
		t.Errorf("P4: the clock is %d, want 9", x.Clock())
	}
}

func TestRunAnswersHowMany(t *testing.T) {
	x := boot(t, text(programs(counter())))
	clock := 0
	for _, c := range []struct{ n, want int }{
		{1, 1}, {0, 0}, {-1, 0}, {5, 5}, {math.MinInt, 0}, {-api.MaxRun, 0},
		{api.MaxRun - 1, api.MaxRun - 1}, {api.MaxRun, api.MaxRun}, {api.MaxRun + 1, api.MaxRun}, {2 * api.MaxRun, api.MaxRun}, {math.MaxInt, api.MaxRun},
	} {
		before := look(x)
		if n := x.Run(c.n); n != c.want {
			t.Errorf("P4: Run(%d) = %d, want %d", c.n, n, c.want)
		}
		clock += c.want
		if x.Clock() != clock {
			t.Errorf("P4: behind Run(%d) the clock is %d, want %d", c.n, x.Clock(), clock)
		}
		mustHave(t, "P4: the clock's word", x, 1, uint32(clock))
		if c.want == 0 && !look(x).equals(before) {
			t.Errorf("P4: Run(%d) does something", c.n)
		}
	}
}

// TestRunDoesWhatItSays: of the cycles that Run(MaxRun) answers each one was done.
func TestRunDoesWhatItSays(t *testing.T) {
	for _, n := range []int{api.MaxRun, api.MaxRun + 1, math.MaxInt} {
		x := boot(t, text(programs(counter())))
		x.Run(n)
		// 1538 rounds of 65 cycles and 30 more: 98462 cycles of turns, of which the first one loads.
		if v := view(t, x, 0); v.Regs[0] != 49231 {
			t.Errorf("P4: Run(%d) counts to %d, want 49231", n, v.Regs[0])
		}
	}
}

func TestRunInPortions(t *testing.T) {
	send := []uint32{code(api.Add, 2, 2, 0), call(api.Send), code(api.Xor, 2, 0, 0), call(api.Time), code(api.Mul, 3, 2, 0), code(api.Put, 3, 1, 15), call(api.Yield), code(api.Jump, 0, 0, 0)}
	receive := []uint32{call(api.Receive), code(api.Add, 5, 2, 0), code(api.Or, 5, 0, 0), code(api.Jump, 0, 0, 0)}
	p := timed(programs(send, receive, counter(), nil), 3, 7, 5, 1, 2)
	p.Wards[0].Program[0] = load(2, 9)
	p.Wires = []plan.Wire{{From: 0, To: 1}}
	const all = 2000
	whole := boot(t, text(p))
	run(t, whole, all)
	want := look(whole)
	for _, portion := range []int{1, 2, 3, 8, 27, 100, 500, 1999} {
		x := boot(t, text(p))
		for left := all; left > 0; left -= portion {
			run(t, x, min(portion, left))
			x.Run(0)
		}
		if got := look(x); !got.equals(want) {
			t.Errorf("P4: in portions of %d: %+v, want %+v", portion, got, want)
		}
	}
}

// TestWhoseTurnItIs: the words 0 and 1 ahead of each cycle of two rounds, and behind them.
func TestWhoseTurnItIs(t *testing.T) {
	for _, c := range []struct {
		gap    int
		quanta []int
		round  []uint32
	}{
		{1, []int{1}, []uint32{0, 0}},
		{1, []int{3}, []uint32{0, 0, 0, 0}},
		{3, []int{2}, []uint32{0, 0, 0, 1, 1}},
		{1, []int{2, 3}, []uint32{0, 0, 0, 1, 1, 1, 1}},
		{2, []int{1, 3, 2}, []uint32{0, 0, 3, 1, 1, 1, 1, 3, 2, 2, 2, 3}},
		{3, []int{1, 1, 2, 1}, []uint32{0, 0, 4, 4, 1, 1, 4, 4, 2, 2, 2, 4, 4, 3, 3, 4, 4}},
	} {
		list := [][]uint32{counter(), {call(api.Halt)}, nil, {call(api.Yield)}}
		x := boot(t, text(timed(programs(list[:len(c.quanta)]...), c.gap, c.quanta...)))
		for i, turn := range append(c.round, c.round...) {
			mustHave(t, "P4, P6: a gap of "+decimal(c.gap), x, 0, turn, uint32(i))
			run(t, x, 1)
		}
		mustHave(t, "P4, P6: behind two rounds", x, 0, 0, uint32(2*len(c.round)))
	}
}

// TestTheLongestRound: the greatest quanta and gaps, of the most wards.
func TestTheLongestRound(t *testing.T) {
	x := boot(t, text(timed(programs(counter(), counter(), counter(), counter()), 16, 64, 64, 64, 64)))
	for cycle := range 2 * 320 {
		turn := uint32(cycle % 320 / 80)
		if k := cycle % 80; k > 64 {
			turn = 4
		}
		mustHave(t, "P4, P6", x, 0, turn, uint32(cycle))
		run(t, x, 1)
	}
}

// TestEachTurnAsLongAsItsQuantum: rounds of several wards, seen by how far each counts.
func TestEachTurnAsLongAsItsQuantum(t *testing.T) {
	x := boot(t, text(timed(programs(counter(), counter(), counter(), counter()), 2, 3, 10, 1, 64)))
	for round := range 20 {
		for i, quantum := range []int{3, 10, 1, 64} {
			want := uint32(round*quantum) / 2
			if v := view(t, x, i); v.Regs[0] != want || v.Status != api.Running {
				t.Errorf("P4: behind %d rounds: ward %d counts to %d, want %d", round, i, v.Regs[0], want)
			}
		}
		run(t, x, 3+10+1+64+4*2)
	}
}

// TestTheTimetableStandsWhateverWardsDo: wards that halt, yield or are parked have turns as long as any.
func TestTheTimetableStandsWhateverWardsDo(t *testing.T) {
	for _, other := range [][]uint32{nil, counter(), {call(api.Halt)}, {call(api.Yield), code(api.Jump, 0, 0, 0)}, {code(api.Div, 0, 0, 0)}, {code(api.Mul, 0, 0, 0), code(api.Jump, 0, 0, 0)}} {
		x := boot(t, text(timed(programs(other, counter()), 2, 7, 5)))
		for round := range 10 {
			for cycle := range 16 {
				turn := []uint32{0, 0, 0, 0, 0, 0, 0, 0, 2, 1, 1, 1, 1, 1, 1, 2}[cycle]
				mustHave(t, "P4", x, 0, turn, uint32(16*round+cycle))
				run(t, x, 1)
			}
			if v := view(t, x, 1); v.Regs[0] != uint32(5*(round+1))/2 {
				t.Errorf("P4: behind %d rounds: ward 1 counts to %d", round+1, v.Regs[0])
			}
		}
	}
}

// TestTheClockGoesBeyondAWord: the word 1, and what Time answers, go round at 2^32; the clock and the rounds go on.
func TestTheClockGoesBeyondAWord(t *testing.T) {
	const late = 1 << 32
	x := boot(t, text(timed(programs([]uint32{call(api.Time), code(api.Move, 5, 0, 0), call(api.Time)}), 1, 63)))
	// A round has 64 cycles, so the cycle late - 1 is a gap: Time late - 5 to late - 2, Move late, Time from late + 1 on.
	x.clock = late - 5
	run(t, x, 4)
	mustHave(t, "P4", x, 0, 0, late-1)
	run(t, x, 1)
	mustHave(t, "P4", x, 0, 0, 0)
	run(t, x, 2)
	mustHave(t, "P4", x, 0, 0, 2)
	if x.Clock() != late+2 {
		t.Errorf("P4: the clock is %d", x.Clock())
	}
	if v := view(t, x, 0); v.Regs[5] != late-5 || v.Regs[0] != 1 {
		t.Errorf("P4: Time answers %d and %d, want %d and 1", v.Regs[5], v.Regs[0], late-5)
	}
}

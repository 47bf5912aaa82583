package wards

import (
	"math"
	"testing"

	"wards/api"
	"wards/plan"
)

// marked gives registers with a number of their own each.
func marked() [8]uint32 { return [8]uint32{90, 91, 92, 93, 94, 95, 96, 97} }

// prepare gives a ward, in its turn, registers.
func prepare(x *Kernel, ward int, regs [8]uint32) { x.wards[ward].Regs = regs }

func TestCallsWithoutWires(t *testing.T) {
	answered := func(word uint32) [8]uint32 {
		regs := marked()
		regs[0] = word
		return regs
	}
	for _, c := range []struct {
		why  string
		n    int
		want api.View
	}{
		{"Halt", 0, api.View{Regs: marked(), Place: 1, Status: api.Halted}},
		{"Yield", 1, api.View{Regs: marked(), Place: 1, Yielded: true}},
		{"Who", 2, api.View{Regs: answered(0), Place: 1, Busy: 3}},
		{"Time", 6, api.View{Regs: answered(0), Place: 1, Busy: 3}},
		{"the call 7", 7, api.View{Regs: marked(), Status: api.Parked, Cause: api.Unknown}},
		{"the call 256", 256, api.View{Regs: marked(), Status: api.Parked, Cause: api.Unknown}},
		{"the call 65535", 65535, api.View{Regs: marked(), Status: api.Parked, Cause: api.Unknown}},
	} {
		// a and b don't count.
		for _, word := range []uint32{call(c.n), code(api.Call, 15, 15, c.n)} {
			x := boot(t, text(programs([]uint32{word})))
			prepare(x, 0, marked())
			run(t, x, 1)
			mustView(t, "P5: "+c.why, x, 0, c.want)
		}
	}
}

func TestWhoTellsEachWardItsNumber(t *testing.T) {
	program := []uint32{call(api.Who), call(api.Halt)}
	x := boot(t, text(timed(programs(program, program, program, program), 2, 3, 1, 7, 2)))
	run(t, x, 400)
	for i := range 4 {
		mustView(t, "P5: Who", x, i, api.View{Regs: [8]uint32{uint32(i)}, Place: 2, Status: api.Halted})
	}
}

func TestTimeTellsTheCyclesAheadOfIt(t *testing.T) {
	program := []uint32{call(api.Time), code(api.Move, 7, 0, 0), call(api.Time), call(api.Halt)}
	x := boot(t, text(timed(programs(program, program), 3, 4, 9)))
	// A round has 19 cycles: ward 0's turn is cycles 0 to 3, then 19 to 22; ward 1's 7 to 15.
	run(t, x, 60)
	mustView(t, "P5: Time", x, 0, api.View{Regs: [8]uint32{0: 20, 7: 0}, Place: 4, Status: api.Halted})
	mustView(t, "P5: Time", x, 1, api.View{Regs: [8]uint32{0: 12, 7: 7}, Place: 4, Status: api.Halted})
}

// TestYield: a ward that has yielded does nothing in this turn, and goes on in the next one.
func TestYield(t *testing.T) {
	x := boot(t, text(timed(programs([]uint32{load(1, 5), call(api.Yield), load(2, 6), call(api.Yield), load(3, 7)}), 2, 6)))
	for _, want := range []api.View{
		{Regs: [8]uint32{1: 5}, Place: 2},
		{Regs: [8]uint32{1: 5, 2: 6}, Place: 4},
	} {
		run(t, x, 2)
		yielded := want
		yielded.Yielded = true
		for range 5 {
			mustView(t, "P5: behind Yield", x, 0, yielded)
			if k := x.Clock() % 8; k < 6 {
				run(t, x, 1)
			}
		}
		run(t, x, 1)
		mustView(t, "P6: the turn is over", x, 0, want)
		run(t, x, 1)
		mustView(t, "P6: the next turn begins", x, 0, want)
	}
	run(t, x, 1)
	mustView(t, "P5: the third turn", x, 0, api.View{Regs: [8]uint32{1: 5, 2: 6, 3: 7}, Place: 5})
}

// TestYieldInTheLastCycle: there is nothing left of the turn to give up; the next one is whole.
func TestYieldInTheLastCycle(t *testing.T) {
	x := boot(t, text(timed(programs([]uint32{call(api.Yield), code(api.Add, 1, 2, 0), load(3, 7)}), 1, 1)))
	run(t, x, 1)
	mustView(t, "P5", x, 0, api.View{Place: 1, Yielded: true})
	mustHave(t, "P6: not saved yet", x, 16+12, 0)
	run(t, x, 1)
	mustView(t, "P6", x, 0, api.View{Place: 1})
	mustHave(t, "P6", x, 16+12, 0)
	run(t, x, 3)
	mustView(t, "P5", x, 0, api.View{Regs: [8]uint32{3: 7}, Place: 3})
}

func TestHaltedForGood(t *testing.T) {
	x := boot(t, text(timed(programs([]uint32{load(1, 5), call(api.Halt), load(2, 6)}), 2, 4)))
	run(t, x, 2)
	for range 30 {
		mustView(t, "P5: behind Halt", x, 0, api.View{Regs: [8]uint32{1: 5}, Place: 2, Status: api.Halted})
		run(t, x, 1)
	}
	mustHave(t, "P6", x, 16, 0, 5, 0, 0, 0, 0, 0, 0, 2, 1, 0, 0, 0, 0, 0, 0)
}

// ends is a plan of three wards, each of which does the call at once, and of three wires: K is 70, the cells are the words 64 to 69.
func ends(n int) plan.Plan {
	p := programs([]uint32{call(n)}, []uint32{call(n)}, []uint32{call(n)})
	p.Wires = []plan.Wire{{From: 0, To: 1}, {From: 2, To: 0}, {From: 0, To: 2}}
	return p
}

// wireCall has what a call of a ward does to a wire, whose cell was full or empty.
type wireCall struct {
	n, ward   int
	wire      uint32
	full      uint32
	cause     int
	answer    uint32
	register2 uint32 // behind the call; it was 92, and the cell's word 55
	cell      [2]uint32
}

func wireCalls() []wireCall {
	empty, full := [2]uint32{0, 55}, [2]uint32{1, 55}
	list := []wireCall{
		{api.Send, 0, 0, 0, api.None, 0, 92, [2]uint32{1, 92}},
		{api.Send, 0, 0, 1, api.None, 1, 92, full},
		{api.Send, 0, 2, 0, api.None, 0, 92, [2]uint32{1, 92}},
		{api.Send, 2, 1, 0, api.None, 0, 92, [2]uint32{1, 92}},
		{api.Send, 2, 1, 1, api.None, 1, 92, full},
		{api.Receive, 1, 0, 1, api.None, 0, 55, empty},
		{api.Receive, 1, 0, 0, api.None, 1, 92, empty},
		{api.Receive, 0, 1, 1, api.None, 0, 55, empty},
		{api.Receive, 2, 2, 1, api.None, 0, 55, empty},
		{api.Receive, 2, 2, 0, api.None, 1, 92, empty},
	}
	for _, c := range []struct {
		ward int
		wire uint32
		has  string // the ward's ends
	}{{0, 0, "from"}, {1, 0, "to"}, {2, 0, ""}, {0, 1, "to"}, {1, 1, ""}, {2, 1, "from"}, {0, 2, "from"}, {1, 2, ""}, {2, 2, "to"}} {
		for i, cell := range [][2]uint32{empty, full} {
			state := uint32(i)
			if c.has != "" {
				list = append(list, wireCall{api.Look, c.ward, c.wire, state, api.None, state, 92, cell})
			} else {
				list = append(list, wireCall{api.Look, c.ward, c.wire, state, api.Foreign, 0, 0, cell})
			}
			if c.has != "from" {
				list = append(list, wireCall{api.Send, c.ward, c.wire, state, api.Foreign, 0, 0, cell})
			}
			if c.has != "to" {
				list = append(list, wireCall{api.Receive, c.ward, c.wire, state, api.Foreign, 0, 0, cell})
			}
		}
	}
	return list
}

func TestWires(t *testing.T) {
	for _, c := range wireCalls() {
		x := boot(t, text(ends(c.n)))
		at := 64 + 2*int(c.wire)
		run(t, x, 65*c.ward)
		x.memory[at], x.memory[at+1] = c.full, 55
		regs := marked()
		regs[1] = c.wire
		prepare(x, c.ward, regs)
		before := words(x)
		run(t, x, 1)
		want := api.View{Regs: regs, Status: api.Parked, Cause: c.cause}
		if c.cause == api.None {
			want = api.View{Regs: regs, Place: 1, Busy: 3}
			want.Regs[0], want.Regs[2] = c.answer, c.register2
		}
		why := "P5: call " + decimal(c.n) + " of wire " + decimal(int(c.wire))
		mustView(t, why, x, c.ward, want)
		before[1], before[at], before[at+1] = uint32(x.Clock()), c.cell[0], c.cell[1]
		mustHave(t, why, x, 0, before...)
	}
}

// TestWiresThatAreNone: numbers of no wire, far ones too, and all numbers where there are no wires.
func TestWiresThatAreNone(t *testing.T) {
	for _, n := range []int{api.Send, api.Receive, api.Look} {
		for _, number := range []uint32{0, 1, 3, 4, 8, 255, 256, 1 << 16, 1 << 31, math.MaxUint32 - 1, math.MaxUint32} {
			p := ends(n)
			if number < 3 {
				p.Wires = nil
			}
			x := boot(t, text(p))
			regs := marked()
			regs[1] = number
			prepare(x, 0, regs)
			before := words(x)
			run(t, x, 1)
			why := "P5: call " + decimal(n) + " of wire " + decimal(int(number))
			mustView(t, why, x, 0, api.View{Regs: regs, Status: api.Parked, Cause: api.Foreign})
			before[1] = 1
			mustHave(t, why, x, 0, before...)
		}
	}
}

// TestAWireOverTime: a word goes from ward to ward, the next one waits till the cell is empty, and none gets lost.
func TestAWireOverTime(t *testing.T) {
	// One sends 1, 2, 3, each as soon as it can; the other adds what it gets to register 5, shifted so that the order is seen.
	send := []uint32{load(3, 1), code(api.Add, 2, 3, 0), call(api.Send), code(api.Zero, 0, 0, 1), code(api.Jump, 0, 0, 2)}
	receive := []uint32{load(3, 4), call(api.Receive), code(api.Zero, 0, 0, 4), code(api.Jump, 0, 0, 1), code(api.Left, 5, 3, 0), code(api.Add, 5, 2, 0), call(api.Yield), code(api.Jump, 0, 0, 1)}
	p := timed(programs(receive, send), 2, 11, 30)
	p.Wires = []plan.Wire{{From: 1, To: 0}}
	x := boot(t, text(p))
	run(t, x, 13)
	if v := view(t, x, 0); v.Regs[5] != 0 || v.Regs[0] != 1 {
		t.Errorf("P5: received ahead of any word: %+v", v)
	}
	for _, want := range []uint32{1, 0x12, 0x123, 0x1234, 0x12345} {
		run(t, x, 45)
		if v := view(t, x, 0); v.Regs[5] != want {
			t.Errorf("P5: received %#x, want %#x", v.Regs[5], want)
		}
		mustHave(t, "P5: the cell keeps its word", x, 48, 0, want%16)
	}
}

package wards

import (
	"slices"
	"testing"

	"wards/api"
	"wards/plan"
)

// apart gives a ward whose program stands in a region of its own, to execute alone, and has a second one, of 4 words from
// address 300 on, in the memory from 150 on, with these rights.
func apart(rights int, program ...uint32) plan.Plan {
	p := with(plan.Region{First: 0, Words: 16, Base: 40, Rights: plan.Execute}, plan.Region{First: 300, Words: 4, Base: 150, Rights: rights})
	p.Wards[0].Quantum = 64
	p.Wards[0].Program = program
	return p
}

// TestRights: what each sum of rights lets a ward do.
func TestRights(t *testing.T) {
	for rights := 1; rights <= 7; rights++ {
		for _, c := range []struct {
			why   string
			word  uint32
			right int
			after api.View // behind two cycles, if the ward may do it
		}{
			{"Get", code(api.Get, 1, 2, 301), 1, api.View{Regs: [8]uint32{1: 77}, Place: 1}},
			{"Put", code(api.Put, 1, 2, 301), 2, api.View{Place: 1}},
			{"an instruction", code(api.Jump, 0, 0, 301), 4, api.View{Regs: [8]uint32{5: 9}, Place: 302}},
		} {
			x := boot(t, text(apart(rights, c.word)))
			x.memory[151] = 77
			if c.right == 4 {
				x.memory[151] = load(5, 9)
			}
			want := c.after
			if rights&c.right == 0 {
				want = api.View{Place: want.Place - 1, Status: api.Parked, Cause: api.Fault}
				if c.right == 4 {
					want.Place = 301
				}
			}
			run(t, x, 2)
			mustView(t, "P5: "+c.why+" with the rights "+decimal(rights), x, 0, want)
		}
	}
}

// TestWhereARegionEnds: the addresses at its ends and one beyond, also such as b + n reaches by going round.
func TestWhereARegionEnds(t *testing.T) {
	for _, c := range []struct {
		b, n int // register 2 is b less 2
		at   int // the word of the memory, or 0
	}{
		{2, 299, 0}, {2, 300, 150}, {2, 303, 153}, {2, 304, 0}, {2, 0, 0}, {2, 150, 0}, {2, 65535, 0}, {2, 32767, 0}, {2, 32768, 0},
		{302, 0, 150}, {301, 0, 0}, {305, 0, 153}, {306, 0, 0},
		{0, 302, 150}, {1, 301, 150}, {0, 301, 0}, {0, 305, 153}, {0, 306, 0}, {0, 0, 0}, {0, 1, 0}, {0, 65535, 0},
	} {
		program := []uint32{load(1, 2), load(2, c.b), code(api.Sub, 2, 1, 0), code(api.Get, 3, 2, c.n), code(api.Put, 1, 2, c.n)}
		x := boot(t, text(apart(3, program...)))
		for i := range 4 {
			x.memory[150+i] = uint32(1000 + i)
		}
		before := words(x)
		run(t, x, 7)
		b := uint32(c.b) - 2
		want := api.View{Regs: [8]uint32{1: 2, 2: b}, Place: 3, Status: api.Parked, Cause: api.Fault}
		after := slices.Clone(before)
		if c.at != 0 {
			want = api.View{Regs: [8]uint32{1: 2, 2: b, 3: before[c.at]}, Place: 5}
			after[c.at] = 2
		}
		after[1] = 7
		why := "P5: the address " + decimal(int(b)) + " + " + decimal(c.n)
		mustView(t, why, x, 0, want)
		mustHave(t, why, x, 0, after...)
	}
}

// TestPutBesideARegionWritesNothing: with a fault, the memory is as it was.
func TestPutBesideARegionWritesNothing(t *testing.T) {
	for _, n := range []int{16, 40, 150, 200, 299, 304, 1000, 32767, 32768, 32769, 65535} {
		for _, rights := range []int{2, 3, 7} {
			x := boot(t, text(apart(rights, load(1, 5), code(api.Put, 1, 2, n))))
			before := words(x)
			run(t, x, 10)
			before[1] = 10
			mustView(t, "P5: Put to "+decimal(n), x, 0, api.View{Regs: [8]uint32{1: 5}, Place: 1, Status: api.Parked, Cause: api.Fault})
			mustHave(t, "P5: Put to "+decimal(n), x, 0, before...)
		}
	}
}

// TestWhereInstructionsStand: fetching beside regions, from devices and from regions without the right is a fault.
func TestWhereInstructionsStand(t *testing.T) {
	for _, c := range []struct {
		begin uint32
		ok    bool
	}{{0, true}, {15, true}, {16, false}, {299, false}, {300, false}, {303, false}, {32767, true}, {32766, false}, {32768, false}, {32769, false}, {65535, false}} {
		p := apart(3)
		p.Wards[0].Regions = append(p.Wards[0].Regions, plan.Region{First: 32767, Words: 1, Base: 160, Rights: 4})
		p.Wards[0].Begin = c.begin
		x := boot(t, text(p))
		for at := 40; at < 200; at++ {
			x.memory[at] = load(3, 8)
		}
		run(t, x, 1)
		want := api.View{Place: c.begin, Status: api.Parked, Cause: api.Fault}
		if c.ok {
			want = api.View{Regs: [8]uint32{3: 8}, Place: c.begin + 1}
		}
		mustView(t, "P5: a ward that begins at "+decimal(int(c.begin)), x, 0, want)
	}
}

// TestFromRegionToRegion: one instruction behind the other, over the end of a region into the next and out of that.
func TestFromRegionToRegion(t *testing.T) {
	p := with(plan.Region{First: 0, Words: 2, Base: 100, Rights: 4}, plan.Region{First: 2, Words: 1, Base: 50, Rights: 5})
	p.Wards[0].Quantum = 9
	p.Wards[0].Program = []uint32{load(0, 1), load(1, 2)}
	x := boot(t, text(p))
	x.memory[50] = load(2, 3)
	x.memory[102] = load(3, 4)
	x.memory[51] = load(3, 4)
	run(t, x, 5)
	mustView(t, "P5", x, 0, api.View{Regs: [8]uint32{1, 2, 3}, Place: 3, Status: api.Parked, Cause: api.Fault})
}

// TestAWardMayWriteItsProgram: what was put is what is done next.
func TestAWardMayWriteItsProgram(t *testing.T) {
	x := boot(t, text(programs([]uint32{load(1, 0x0170), code(api.High, 1, 0, 55), code(api.Put, 1, 2, 4), code(api.Jump, 0, 0, 4), load(6, 1)})))
	run(t, x, 6)
	mustView(t, "P5", x, 0, api.View{Regs: [8]uint32{1: 0x01700037, 7: 55}, Place: 5})
	mustHave(t, "P5", x, 204, 0x01700037)
	if w, e := x.Peek(0, 4); w != 0x01700037 || e != api.OK {
		t.Errorf("P8: Peek(0, 4) = %#x, %d", w, e)
	}
}

// TestTheSameAddressesOfTwoWards: each ward's are its own words.
func TestTheSameAddressesOfTwoWards(t *testing.T) {
	program := func(n int) []uint32 {
		return []uint32{load(1, n), code(api.Get, 3, 2, 15), code(api.Put, 1, 2, 15), code(api.Get, 4, 2, 15), call(api.Halt)}
	}
	x := boot(t, text(programs(program(7), program(8), program(9))))
	run(t, x, 200)
	for i := range 3 {
		mustView(t, "P5", x, i, api.View{Regs: [8]uint32{1: uint32(7 + i), 4: uint32(7 + i)}, Place: 5, Status: api.Halted})
		mustHave(t, "P5", x, 215+16*i, uint32(7+i))
	}
}

// TestParkedForGood: a ward with a cause stays at its instruction, turn behind turn.
func TestParkedForGood(t *testing.T) {
	for _, c := range []struct {
		why   string
		word  uint32
		cause int
	}{
		{"the code 0", 5, api.Illegal}, {"the code 19", code(19, 1, 1, 1), api.Illegal}, {"the code 255", 1<<32 - 1, api.Illegal},
		{"over 0", code(api.Div, 1, 2, 0), api.Division}, {"Get", code(api.Get, 1, 2, 16), api.Fault}, {"Put", code(api.Put, 1, 2, 16), api.Fault},
		{"Get from a device that is none", code(api.Get, 1, 2, 32768), api.Fault}, {"Put to a device that is none", code(api.Put, 1, 2, 32769), api.Fault},
		{"the call 7", call(7), api.Unknown}, {"the call 65535", call(65535), api.Unknown},
		{"Send", call(api.Send), api.Foreign}, {"Receive", call(api.Receive), api.Foreign}, {"Look", call(api.Look), api.Foreign},
	} {
		x := boot(t, text(timed(programs([]uint32{load(1, 3), c.word, load(1, 4)}), 2, 5)))
		want := api.View{Regs: [8]uint32{1: 3}, Place: 1, Status: api.Parked, Cause: c.cause}
		run(t, x, 2)
		for range 30 {
			mustView(t, "P5: "+c.why, x, 0, want)
			run(t, x, 1)
		}
		mustHave(t, "P6: "+c.why, x, 16, 0, 3, 0, 0, 0, 0, 0, 0, 1, 2, uint32(c.cause), 0, 0, 0, 0, 0)
	}
}

// TestAnInstructionOutlastsItsTurn: what is left of its cycles is done in the next turns.
func TestAnInstructionOutlastsItsTurn(t *testing.T) {
	// A quotient takes 5 cycles, a turn has 2: cycles 0, 1, then 4, 5, then 8; and in cycle 9 the next one.
	x := boot(t, text(timed(programs([]uint32{code(api.Div, 0, 1, 0), load(7, 7)}), 2, 2)))
	x.wards[0].Regs[0], x.wards[0].Regs[1] = 45, 9
	regs := [8]uint32{5, 9}
	for cycle, busy := range []int{4, 3, 3, 3, 2, 1, 1, 1, 0} {
		run(t, x, 1)
		mustView(t, "P5: behind cycle "+decimal(cycle), x, 0, api.View{Regs: regs, Place: 1, Busy: busy})
		if cycle == 2 || cycle == 6 {
			mustHave(t, "P6: behind cycle "+decimal(cycle), x, 16, 5, 9, 0, 0, 0, 0, 0, 0, 1, 0, 0, uint32(busy), 0)
		}
	}
	run(t, x, 1)
	regs[7] = 7
	mustView(t, "P5: the next one", x, 0, api.View{Regs: regs, Place: 2})
}

// TestTurnsOfOneCycle: an instruction of one word and many cycles takes as many turns.
func TestTurnsOfOneCycle(t *testing.T) {
	x := boot(t, text(timed(programs([]uint32{code(api.Mul, 0, 0, 0), code(api.Get, 1, 2, 0), call(api.Time), load(7, 7)}), 1, 1)))
	for turn, want := range []api.View{
		{Place: 1, Busy: 2}, {Place: 1, Busy: 1}, {Place: 1},
		{Place: 2, Busy: 1}, {Place: 2},
		{Place: 3, Busy: 3}, {Place: 3, Busy: 2}, {Place: 3, Busy: 1}, {Place: 3},
		{Place: 4},
	} {
		if turn >= 3 {
			want.Regs[1] = code(api.Mul, 0, 0, 0)
		}
		if turn >= 5 {
			want.Regs[0] = 10
		}
		if turn >= 9 {
			want.Regs[7] = 7
		}
		run(t, x, 1)
		mustView(t, "P5: in turn "+decimal(turn), x, 0, want)
		run(t, x, 1)
		mustView(t, "P6: behind turn "+decimal(turn), x, 0, want)
	}
}

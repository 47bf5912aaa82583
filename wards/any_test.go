package wards

import (
	"math/rand/v2"
	"slices"
	"testing"

	"wards/api"
	"wards/layout"
	"wards/plan"
)

// anyPlan gives wards with programs by chance, the same for the same seed: each has a region of 16 words to do all with, and one of 4 with some rights.
func anyPlan(r *rand.Rand) plan.Plan {
	wards := 1 + r.IntN(api.MaxWards)
	p := plan.Plan{Gap: 1 + r.IntN(api.MaxGap), Memory: 300}
	for i := range wards {
		p.Wards = append(p.Wards, plan.Ward{
			Quantum: 1 + r.IntN(api.MaxQuantum),
			Regions: []plan.Region{
				{First: 0, Words: 16, Base: 100 + 40*i, Rights: 7},
				{First: 20, Words: 4, Base: 120 + 40*i, Rights: 1 + r.IntN(7)},
			},
			Program: anyProgram(r),
		})
	}
	for range r.IntN(api.MaxWires + 1) {
		if from, to := r.IntN(wards), r.IntN(wards); from != to {
			p.Wires = append(p.Wires, plan.Wire{From: from, To: to})
		}
	}
	for range r.IntN(api.MaxDevices + 1) {
		p.Owners = append(p.Owners, r.IntN(wards))
	}
	return p
}

// anyProgram gives instructions by chance, few of which have a cause.
func anyProgram(r *rand.Rand) []uint32 {
	var l []uint32
	for range 15 {
		l = append(l, anyInstruction(r))
	}
	if r.IntN(8) == 0 {
		return l
	}
	return append(l, code(api.Jump, 0, 0, r.IntN(15)))
}

// anyInstruction leaves register 7 a nought, mostly, by which words and devices are reached.
func anyInstruction(r *rand.Rand) uint32 {
	c, a, b, n := 1+r.IntN(api.Call), r.IntN(7), r.IntN(16), r.IntN(16)
	if r.IntN(4) == 0 {
		c = api.Get + r.IntN(2)
	}
	switch {
	case r.IntN(60) == 0:
		return code(r.IntN(256), r.IntN(16), r.IntN(16), r.IntN(1<<16))
	case c == api.Div && r.IntN(4) > 0:
		c = api.Mul
	case c == api.Call && r.IntN(4) > 0:
		n = []int{api.Yield, api.Who, api.Time}[r.IntN(3)]
	case c == api.Call:
		n = r.IntN(api.Time + 1)
	case (c == api.Get || c == api.Put) && r.IntN(4) == 0:
		b, n = 7, r.IntN(16)+4*r.IntN(3)
	case c == api.Get:
		b, n = 7, api.Devices+2*anyDevice(r)
	case c == api.Put:
		b, n = 7, api.Devices+2*anyDevice(r)+1
	}
	return code(c, a, b, n)
}

// anyDevice is the first one of a ward, mostly, which more wards have than a second one.
func anyDevice(r *rand.Rand) int { return r.IntN(4) / 3 * r.IntN(3) }

// latchAny has a device, if there are any, latch a word by chance.
func latchAny(t *testing.T, r *rand.Rand, x *Kernel) {
	t.Helper()
	if len(x.devices) > 0 {
		mustLatch(t, x, r.IntN(len(x.devices)), r.Uint32())
	}
}

// TestAnyProgram: behind each of many portions the kernel's words are as the document says, and what is told of the kernel goes together.
func TestAnyProgram(t *testing.T) {
	for seed := range uint64(400) {
		r := rand.New(rand.NewPCG(seed, 1))
		p := anyPlan(r)
		x := boot(t, text(p))
		for range 40 {
			latchAny(t, r, x)
			run(t, x, 1+r.IntN(40))
			mustKeep(t, p, x)
			mustAgree(t, p, x)
			if t.Failed() {
				t.Fatalf("with the seed %d, at %d: %+v", seed, x.Clock(), p)
			}
		}
	}
}

// turnAt tells what the word 0 must be ahead of a cycle.
func turnAt(p plan.Plan, cycle int) uint32 {
	var round []uint32
	for i, w := range p.Wards {
		// The first cycle of a gap still finds the turn's number.
		round = append(round, slices.Repeat([]uint32{uint32(i)}, w.Quantum+1)...)
		round = append(round, slices.Repeat([]uint32{uint32(len(p.Wards))}, p.Gap-1)...)
	}
	return round[cycle%len(round)]
}

// mustKeep holds the words that no ward may use against what they may be.
func mustKeep(t *testing.T, p plan.Plan, x *Kernel) {
	t.Helper()
	mustHave(t, "P4", x, 0, turnAt(p, x.Clock()), uint32(x.Clock()))
	mustHave(t, "Words: the rest of the first words", x, 2, make([]uint32, 14)...)
	for i := range p.Wards {
		area := words(x)[layout.Area(i):layout.Area(i+1)]
		if area[9] > 2 || area[10] > 5 || area[11] > 4 || !slices.Equal(area[12:], make([]uint32, 4)) {
			t.Errorf("Words: ward %d's save area is %v", i, area)
		}
	}
	for i := range p.Wires {
		if full, _ := x.Word(layout.Cell(len(p.Wards), i)); full > 1 {
			t.Errorf("Words: wire %d's cell is full by %d", i, full)
		}
	}
	free := words(x)
	for _, w := range p.Wards {
		for _, g := range w.Regions {
			clear(free[g.Base : g.Base+g.Words])
		}
	}
	clear(free[:layout.Kernel(len(p.Wards), len(p.Wires))])
	if !slices.Equal(free, make([]uint32, len(free))) {
		t.Errorf("P3: words of no region are %v", free)
	}
}

// mustAgree holds what View and Peek tell against the memory's words.
func mustAgree(t *testing.T, p plan.Plan, x *Kernel) {
	t.Helper()
	all := words(x)
	for i, w := range p.Wards {
		v := view(t, x, i)
		if (v.Status == api.Parked) != (v.Cause != api.None) || v.Busy > 0 && (v.Status != api.Running || v.Yielded) {
			t.Errorf("P5: ward %d is %+v", i, v)
		}
		if area := all[layout.Area(i):]; all[0] != uint32(i) && (!slices.Equal(v.Regs[:], area[:8]) || v.Place != area[8] || v.Yielded) {
			t.Errorf("P8: ward %d is %+v, its save area %v", i, v, area[:16])
		}
		for _, g := range w.Regions {
			for k := range g.Words {
				if word, e := x.Peek(i, uint32(g.First+k)); word != all[g.Base+k] || e != api.OK {
					t.Errorf("P8: Peek(%d, %d) = %#x, %d, want %#x", i, g.First+k, word, e, all[g.Base+k])
				}
			}
		}
		if word, e := x.Peek(i, 16); word != 0 || e != api.ErrAddress {
			t.Errorf("P8: Peek(%d, 16) = %#x, %d", i, word, e)
		}
	}
}

package wards

import (
	"math/rand/v2"
	"slices"
	"strings"
	"testing"

	"wards/api"
	"wards/layout"
	"wards/plan"
)

// wildProgram gives words by chance: most of them are instructions that reach anywhere.
func wildProgram(r *rand.Rand) []uint32 {
	var l []uint32
	for range 16 {
		word := r.Uint32()
		if r.IntN(10) > 0 {
			word = code(1+r.IntN(api.Call), r.IntN(16), r.IntN(16), r.IntN(1<<16))
		}
		l = append(l, word)
	}
	return l
}

// moment is where a cycle stands in its round: in which ward's turn, or how far in the gap behind it.
type moment struct {
	ward  int
	inGap int // from 1 on; 0 in a turn
}

func momentOf(p plan.Plan, cycle int) moment {
	var round []moment
	for i, w := range p.Wards {
		round = append(round, slices.Repeat([]moment{{i, 0}}, w.Quantum)...)
		for k := range p.Gap {
			round = append(round, moment{i, k + 1})
		}
	}
	return round[cycle%len(round)]
}

// mayChange tells for each word of the memory whether a cycle may change it.
func mayChange(p plan.Plan, m moment) []bool {
	may := make([]bool, p.Memory)
	allow := func(at, count int) {
		for k := range count {
			may[at+k] = true
		}
	}
	allow(1, 1)
	switch {
	case m.inGap == 0:
		for _, g := range p.Wards[m.ward].Regions {
			if g.Rights&plan.Write != 0 {
				allow(g.Base, g.Words)
			}
		}
		for i, w := range p.Wires {
			if w.From == m.ward || w.To == m.ward {
				allow(layout.Cell(len(p.Wards), i), 2)
			}
		}
	case m.inGap == 1:
		allow(0, 1)
		allow(layout.Area(m.ward), 13)
	case m.inGap == p.Gap:
		allow(0, 1)
	}
	return may
}

// mustBeContained holds what a cycle has changed against what it may.
func mustBeContained(t *testing.T, p plan.Plan, m moment, before, after seen) {
	t.Helper()
	may := mayChange(p, m)
	for at, w := range after.words {
		if w != before.words[at] && !may[at] {
			t.Errorf("P10: %+v: the word %d was %#x, is %#x", m, at, before.words[at], w)
		}
	}
	for i, v := range after.views {
		if v != before.views[i] && (i != m.ward || m.inGap > 1) {
			t.Errorf("P10: %+v: ward %d was %+v, is %+v", m, i, before.views[i], v)
		}
	}
	for d, s := range after.logs {
		old := before.logs[d]
		mine := m.inGap == 0 && p.Owners[d] == m.ward
		if s != old && (!mine || !strings.HasPrefix(s, old) || len(s) != len(old)+4) {
			t.Errorf("P10: %+v: the log %d was %x, is %x", m, d, old, s)
		}
	}
	if !slices.Equal(after.latches, before.latches) {
		t.Errorf("P10: %+v: the latches were %v, are %v", m, before.latches, after.latches)
	}
}

// TestContained: whatever wards do, a cycle changes no more than P4 to P6 tell.
func TestContained(t *testing.T) {
	for seed := range uint64(200) {
		r := rand.New(rand.NewPCG(seed, 4))
		p := anyPlan(r)
		for i := range p.Wards {
			if r.IntN(3) == 0 {
				p.Wards[i].Program = wildProgram(r)
			}
		}
		x := boot(t, text(p))
		for cycle := range 200 {
			if r.IntN(4) == 0 {
				latchAny(t, r, x)
			}
			before := look(x)
			run(t, x, 1)
			mustBeContained(t, p, momentOf(p, cycle), before, look(x))
		}
		mustKeep(t, p, x)
		mustAgree(t, p, x)
		if t.Failed() {
			t.Fatalf("with the seed %d: %+v", seed, p)
		}
	}
}

// besides is a plan of three wards that have wires and devices; of the second one, which begins at 600, the program is to be chosen.
// K is 68; the words of the wards lie from 200, 216 and 232 on.
func besides(program ...uint32) plan.Plan {
	tell := []uint32{load(1, 0), code(api.Add, 2, 1, 5), call(api.Send), code(api.Put, 0, 7, api.Devices+1), call(api.Time), code(api.Put, 0, 7, 15), code(api.Jump, 0, 0, 0)}
	hear := []uint32{load(1, 0), call(api.Receive), code(api.Get, 3, 7, api.Devices+2), code(api.Put, 3, 7, api.Devices+1), code(api.Jump, 0, 0, 0)}
	p := owning(timed(programs(tell, program, hear), 2, 9, 8, 7), 0, 2, 1, 2)
	p.Wires = []plan.Wire{{From: 0, To: 2}, {From: 2, To: 0}}
	p.Wards[1].Begin = 600
	p.Wards[1].Regions[0].First = 600
	return p
}

// others gives what is to be seen of all but ward 1 of besides.
func others(x *Kernel) seen {
	s := look(x)
	clear(s.words[layout.Area(1):layout.Area(2)])
	clear(s.words[216:232])
	s.views[1] = api.View{}
	return s
}

// undisturbed gives what is to be seen of the others behind each of some cycles, beside a ward that does nothing.
func undisturbed(t *testing.T) []seen {
	t.Helper()
	var l []seen
	x := boot(t, text(besides()))
	for cycle := range 70 {
		if cycle == 30 {
			mustLatch(t, x, 3, 8)
		}
		run(t, x, 1)
		l = append(l, others(x))
	}
	return l
}

// mustDoNoHarm runs a plan as besides gives it, and holds the others against how they are undisturbed. Ward 1 must get parked in its first turn.
func mustDoNoHarm(t *testing.T, why string, p plan.Plan, cause int, want []seen) {
	t.Helper()
	x := boot(t, text(p))
	for cycle, w := range want {
		if cycle == 30 {
			mustLatch(t, x, 3, 8)
		}
		run(t, x, 1)
		if got := others(x); !got.equals(w) {
			t.Fatalf("P10: %s: behind cycle %d: %+v, want %+v", why, cycle, got, w)
		}
	}
	if v := view(t, x, 1); v.Status != api.Parked || v.Cause != cause {
		t.Errorf("P10: %s: ward 1 is %+v, want the cause %d", why, v, cause)
	}
	for k, w := range p.Wards[1].Program {
		mustHave(t, "P10: "+why, x, 216+k, w)
	}
	mustLog(t, "P10: "+why, x, 2)
}

// TestReachingOut: for each word of the kernel and of the others, and for each address near the devices, by its number.
func TestReachingOut(t *testing.T) {
	want := undisturbed(t)
	if last := want[len(want)-1]; last.logs[0] == "" || last.logs[1] == "" {
		t.Fatalf("the others tell %x", last.logs)
	}
	for n := range api.Devices + 40 {
		if n >= 600 && n < 616 || n > 1030 && n < api.Devices-3 {
			continue
		}
		why := "the address " + decimal(n)
		prepared := []uint32{load(2, n), load(3, 0xdead)}
		if n != api.Devices {
			mustDoNoHarm(t, "Get of "+why, besides(append(prepared, code(api.Get, 3, 2, 0))...), api.Fault, want)
		}
		if n != api.Devices+1 {
			mustDoNoHarm(t, "Put to "+why, besides(append(prepared, code(api.Put, 3, 2, 0))...), api.Fault, want)
		}
		mustDoNoHarm(t, "Jump to "+why, besides(append(prepared, code(api.Jump, 0, 0, n))...), api.Fault, want)
	}
}

// TestCallingOut: for the wires of others, for wires that are none, and for calls that are none.
func TestCallingOut(t *testing.T) {
	want := undisturbed(t)
	for _, n := range []int{api.Send, api.Receive, api.Look} {
		for wire := range 5 {
			p := besides(load(1, wire), load(2, 0xdead), call(n))
			mustDoNoHarm(t, "call "+decimal(n)+" of wire "+decimal(wire), p, api.Foreign, want)
		}
	}
	for _, n := range []int{7, 8, 255, 256, 65535} {
		mustDoNoHarm(t, "call "+decimal(n), besides(call(n)), api.Unknown, want)
	}
}

// TestOneInstructionInFiveCycles: a ward that goes on is never busy for 5 cycles of its turns.
func TestOneInstructionInFiveCycles(t *testing.T) {
	for seed := range uint64(200) {
		r := rand.New(rand.NewPCG(seed, 5))
		p := anyPlan(r)
		x := boot(t, text(p))
		busy := make([]int, len(p.Wards)) // for how many cycles of its turns each ward has been so
		for cycle := range 500 {
			m := momentOf(p, cycle)
			v := view(t, x, m.ward)
			run(t, x, 1)
			if m.inGap > 0 {
				continue
			}
			busy[m.ward]++
			if v.Busy == 0 || v.Status != api.Running || v.Yielded {
				busy[m.ward] = 0
			}
			if busy[m.ward] >= 5 {
				t.Fatalf("P10: with the seed %d: ward %d is busy for %d cycles: %+v", seed, m.ward, busy[m.ward], v)
			}
		}
	}
}

// TestEachCodeGoesOn: one code over and over takes the ward to the next place at least once in any 5 cycles of its turns, however these are cut.
func TestEachCodeGoesOn(t *testing.T) {
	for c := api.Load; c <= api.Call; c++ {
		var program []uint32
		for place := range 16 {
			n := api.Who
			switch c {
			case api.Jump, api.Zero, api.Minus:
				n = place + 1
			case api.Put:
				n = 14 // the program's last word, which it doesn't come to
			}
			program = append(program, code(c, 3, 4, n))
		}
		for quantum := 1; quantum <= 7; quantum++ {
			x := boot(t, text(timed(programs(counter(), program), 1, 3, quantum)))
			run(t, x, 4)
			prepare(x, 1, [8]uint32{3: 1, 4: 1})
			var places []uint32 // behind each cycle of its turns
			for len(places) < 16 {
				for range quantum {
					run(t, x, 1)
					places = append(places, view(t, x, 1).Place)
				}
				run(t, x, 5)
			}
			for i := 5; i < 16; i++ {
				if places[i] <= places[i-5] {
					t.Errorf("P10: the code %d, turns of %d: the places are %v", c, quantum, places)
				}
			}
		}
	}
}

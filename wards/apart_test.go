package wards

import (
	"math/rand/v2"
	"slices"
	"testing"

	"wards/api"
	"wards/plan"
)

// own is what P9 speaks of: all that a ward is and has.
type own struct {
	view  api.View
	words []uint32
	logs  []string
}

// lookAt gives a ward's own.
func lookAt(t *testing.T, p plan.Plan, x *Kernel, ward int) own {
	t.Helper()
	o := own{view: view(t, x, ward)}
	for _, g := range p.Wards[ward].Regions {
		for k := range g.Words {
			w, e := x.Peek(ward, uint32(g.First+k))
			if e != api.OK {
				t.Fatalf("P8: Peek(%d, %d): %d", ward, g.First+k, e)
			}
			o.words = append(o.words, w)
		}
	}
	for _, d := range devicesOf(p, ward) {
		s, e := x.Log(d)
		if e != api.OK {
			t.Fatalf("P7: Log(%d): %d", d, e)
		}
		o.logs = append(o.logs, s)
	}
	return o
}

func (a own) equals(b own) bool {
	return a.view == b.view && slices.Equal(a.words, b.words) && slices.Equal(a.logs, b.logs)
}

// beside gives a plan in which these wards are as they were, with as many devices and with the wires among them, and all
// else is by chance: the others' programs, regions, wires and devices, and the memory's end.
func beside(r *rand.Rand, p plan.Plan, keep ...int) plan.Plan {
	q := plan.Plan{Gap: p.Gap, Memory: 300 + r.IntN(api.MaxMemory-300+1), Wards: slices.Clone(p.Wards), Wires: slices.Clone(p.Wires)}
	var others []int
	for i := range q.Wards {
		if !slices.Contains(keep, i) {
			q.Wards[i] = anotherWard(r, q.Wards[i])
			others = append(others, i)
		}
	}
	for _, d := range p.Owners {
		if slices.Contains(keep, d) {
			q.Owners = append(q.Owners, d)
		}
	}
	for len(others) > 0 && len(q.Owners) < api.MaxDevices && r.IntN(5) > 0 {
		q.Owners = slices.Insert(q.Owners, r.IntN(len(q.Owners)+1), others[r.IntN(len(others))])
	}
	for len(others) > 1 && len(q.Wires) < api.MaxWires && r.IntN(5) > 0 {
		from := r.IntN(len(others))
		q.Wires = append(q.Wires, plan.Wire{From: others[from], To: others[(from+1)%len(others)]})
	}
	return q
}

// anotherWard gives one with the same quantum, whose regions lie within the words that the ward's own had.
func anotherWard(r *rand.Rand, w plan.Ward) plan.Ward {
	base := w.Regions[0].Base
	first := r.IntN(api.Devices - 16)
	other := plan.Ward{Quantum: w.Quantum, Begin: uint32(first), Program: anyProgram(r)}
	other.Regions = []plan.Region{{First: first, Words: 16, Base: base + r.IntN(4), Rights: 1 + r.IntN(7)}}
	switch r.IntN(4) {
	case 0:
		other.Begin = uint32(r.IntN(1 << 16))
	case 1:
		other.Program = nil
	case 2:
		other.Regions = []plan.Region{{First: 0, Words: 16, Base: base, Rights: 7}, {First: 16, Words: 8, Base: base + 16, Rights: 1 + r.IntN(7)}}
		other.Begin = 0
	}
	return other
}

// twins has two kernels of unlike plans, whose kept wards must be alike.
type twins struct {
	p, q plan.Plan
	x, y *Kernel
	keep []int
}

// latch has the kept wards' devices latch the same words, and the others' what they will.
func (w *twins) latch(t *testing.T, r *rand.Rand) {
	t.Helper()
	for _, i := range w.keep {
		a, b := devicesOf(w.p, i), devicesOf(w.q, i)
		for k := range a {
			if r.IntN(6) == 0 {
				word := r.Uint32()
				mustLatch(t, w.x, a[k], word)
				mustLatch(t, w.y, b[k], word)
			}
		}
	}
	for d, owner := range w.q.Owners {
		if !slices.Contains(w.keep, owner) {
			mustLatch(t, w.y, d, r.Uint32())
		}
	}
}

// mustBeAlike runs both, and holds the kept wards against each other behind each cycle. It answers what the first of them has at last.
func (w *twins) mustBeAlike(t *testing.T, r *rand.Rand, cycles int) own {
	t.Helper()
	for range cycles {
		for _, i := range w.keep {
			if a, b := lookAt(t, w.p, w.x, i), lookAt(t, w.q, w.y, i); !a.equals(b) {
				t.Fatalf("P9: at %d ward %d of %+v is %+v, but of %+v %+v", w.x.Clock(), i, w.p, a, w.q, b)
			}
		}
		w.latch(t, r)
		run(t, w.x, 1)
		run(t, w.y, 1)
	}
	return lookAt(t, w.p, w.x, w.keep[0])
}

// TestApart: without wires of its own a ward hangs on nothing of the other wards, at no time.
func TestApart(t *testing.T) {
	told, running := 0, 0
	for seed := range uint64(300) {
		r := rand.New(rand.NewPCG(seed, 2))
		p := anyPlan(r)
		p.Wires = nil
		keep := r.IntN(len(p.Wards))
		p.Owners = append(p.Owners[:len(p.Owners)/2], keep, keep)
		q := beside(r, p, keep)
		w := twins{p, q, boot(t, text(p)), boot(t, text(q)), []int{keep}}
		last := w.mustBeAlike(t, r, 300)
		for _, s := range last.logs {
			told += len(s)
		}
		if last.view.Status == api.Running {
			running++
		}
	}
	// Else there would be little to compare.
	if told < 4*500 || running < 50 {
		t.Errorf("the wards told %d bytes, %d of them go on", told, running)
	}
}

// TestApartWithWires: two wards with wires among them hang on one another, and on nothing of the third and the fourth.
func TestApartWithWires(t *testing.T) {
	send := []uint32{code(api.Get, 2, 7, api.Devices), load(1, 0), call(api.Send), load(1, 1), call(api.Receive), code(api.Put, 2, 7, api.Devices+1), code(api.Jump, 0, 0, 0)}
	receive := []uint32{load(1, 0), call(api.Receive), code(api.Put, 2, 7, api.Devices+1), call(api.Time), code(api.Add, 2, 0, 0), load(1, 1), call(api.Send), call(api.Look), code(api.Put, 0, 7, api.Devices+1), code(api.Jump, 0, 0, 0)}
	told := 0
	for seed := range uint64(60) {
		r := rand.New(rand.NewPCG(seed, 3))
		p := timed(programs(send, receive, anyProgram(r), anyProgram(r)), 1+r.IntN(4), 1+r.IntN(30), 1+r.IntN(30), 1+r.IntN(30), 1+r.IntN(30))
		p.Wires = []plan.Wire{{From: 0, To: 1}, {From: 1, To: 0}}
		for i := range p.Wards {
			p.Wards[i].Regions[0].Base = 120 + 40*i
		}
		p.Owners = []int{0, 1}
		q := beside(r, p, 0, 1)
		w := twins{p, q, boot(t, text(p)), boot(t, text(q)), []int{0, 1}}
		told += len(w.mustBeAlike(t, r, 1000).logs[0])
	}
	if told < 4*500 {
		t.Errorf("the wards told %d bytes", told)
	}
}

// TestApartFromChosenPrograms: beside wards that do nothing, too much, or try to do harm.
func TestApartFromChosenPrograms(t *testing.T) {
	mine := []uint32{code(api.Get, 1, 7, api.Devices), code(api.Put, 1, 7, api.Devices+3), call(api.Time), code(api.Put, 0, 7, api.Devices+1), code(api.Put, 0, 7, 15), code(api.Jump, 0, 0, 0)}
	others := [][]uint32{
		nil, counter(), echo(), {call(api.Halt)}, {call(api.Yield), code(api.Jump, 0, 0, 0)}, {code(api.Div, 0, 0, 0)}, {call(api.Send)}, {call(7)},
		{code(api.Div, 0, 1, 0), code(api.Jump, 0, 0, 0)}, {load(1, 1), code(api.Div, 0, 1, 0), code(api.Jump, 0, 0, 1)},
		{code(api.Put, 1, 7, 215)}, {code(api.Put, 1, 7, 231)}, {code(api.Put, 1, 7, api.Devices+3)}, {code(api.Put, 1, 7, 1)}, {code(api.Jump, 0, 0, 200)},
		{load(1, 15), code(api.Put, 1, 7, 15), code(api.Get, 2, 7, 15), code(api.Jump, 0, 0, 1)},
	}
	for ward := range 3 {
		var first []own
		for n, other := range others {
			list := [][]uint32{other, other, other}
			list[ward] = mine
			owners := []int{(ward + 1) % 3, ward, ward, (ward + 2) % 3}
			p := owning(timed(programs(list...), 2, 11, 7, 5), owners...)
			x := boot(t, text(p))
			for cycle := range 400 {
				mustLatch(t, x, 0, uint32(n+cycle))
				mustLatch(t, x, 3, uint32(n*cycle))
				if cycle%13 == 0 {
					mustLatch(t, x, 1, uint32(cycle))
				}
				run(t, x, 1)
				o := lookAt(t, p, x, ward)
				if n == 0 {
					first = append(first, o)
				} else if !o.equals(first[cycle]) {
					t.Fatalf("P9: at %d, beside %x: ward %d is %+v, want %+v", x.Clock(), other, ward, o, first[cycle])
				}
			}
		}
		if last := first[len(first)-1]; len(last.logs[0]) < 16 || len(last.logs[1]) < 16 {
			t.Errorf("ward %d told %x", ward, last.logs)
		}
	}
}

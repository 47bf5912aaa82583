package wards

import (
	"math"
	"testing"

	"wards/api"
	"wards/layout"
	"wards/plan"
)

// outside has numbers that no ward and no word has.
var outside = []int{-1, math.MinInt, math.MaxInt, math.MinInt32, math.MaxInt32, 1 << 16, -1 << 16}

func TestWord(t *testing.T) {
	for _, size := range []int{64, 200, 1024} {
		p := with(plan.Region{First: 0, Words: 1, Base: 63, Rights: 7}, plan.Region{First: 1, Words: 1, Base: 62, Rights: 7})
		p.Memory = size
		p.Wards[0].Program = []uint32{0xfedcba98}
		x := boot(t, text(p))
		if w, e := x.Word(63); w != 0xfedcba98 || e != api.OK {
			t.Errorf("P8: %d words: Word(63) = %#x, %d", size, w, e)
		}
		for _, at := range []int{0, 62, size - 2} {
			if w, e := x.Word(at); w != 0 || e != api.OK {
				t.Errorf("P8: %d words: Word(%d) = %#x, %d", size, at, w, e)
			}
		}
		if _, e := x.Word(size - 1); e != api.OK {
			t.Errorf("P8: %d words: the last one: %d", size, e)
		}
		for _, at := range append(outside, size, size+1) {
			if w, e := x.Word(at); w != 0 || e != api.ErrAddress {
				t.Errorf("P8: %d words: Word(%d) = %#x, %d", size, at, w, e)
			}
		}
	}
}

func TestWordTellsWhatIsThereNow(t *testing.T) {
	x := boot(t, document)
	x.memory[100] = 5
	if w, e := x.Word(100); w != 5 || e != api.OK {
		t.Errorf("P8: Word(100) = %d, %d", w, e)
	}
	if w, e := x.Peek(0, 36); w != 0 || e != api.ErrAddress {
		t.Errorf("P8: Peek beside the region: %d, %d", w, e)
	}
}

func TestViewOfNoWard(t *testing.T) {
	for count := 1; count <= api.MaxWards; count++ {
		x := boot(t, text(ordinary(count)))
		for _, k := range append(outside, count, count+1) {
			if v, e := x.View(k); v != (api.View{}) || e != api.ErrWard {
				t.Errorf("P8: %d wards: View(%d) = %+v, %d", count, k, v, e)
			}
			for _, a := range []uint32{0, 8, math.MaxUint32} {
				if w, e := x.Peek(k, a); w != 0 || e != api.ErrWard {
					t.Errorf("P8: %d wards: Peek(%d, %d) = %#x, %d", count, k, a, w, e)
				}
			}
		}
		if got := len(views(x)); got != count {
			t.Errorf("P8: %d wards: %d have views", count, got)
		}
	}
}

// TestViewInAndOutOfTurn: in its turn a ward is as the processor has it, else as its save area says.
func TestViewInAndOutOfTurn(t *testing.T) {
	x := boot(t, text(ordinary(2)))
	area := api.View{Regs: [8]uint32{7: 9}, Place: 6, Status: api.Parked, Cause: api.Fault, Busy: 2, Yielded: true}
	for i := range x.wards {
		x.wards[i].Regs[3] = 4
		copy(x.memory[layout.Area(i):], []uint32{0, 0, 0, 0, 0, 0, 0, 9, 6, 2, 3, 2, 1})
	}
	live := api.View{Regs: [8]uint32{3: 4}}
	for _, c := range []struct {
		turn uint32
		want [2]api.View
	}{
		{0, [2]api.View{live, area}},
		{1, [2]api.View{area, live}},
		{2, [2]api.View{area, area}}, // a gap
	} {
		x.memory[layout.Turn] = c.turn
		for i, want := range c.want {
			if v, e := x.View(i); v != want || e != api.OK {
				t.Errorf("P8: the word 0 is %d: View(%d) = %+v, %d, want %+v", c.turn, i, v, e, want)
			}
		}
	}
}

// peeked is what Peek answers.
type peeked struct {
	word uint32
	e    api.Errno
}

// TestPeekKeepsToTheRegions: at every address below 70000, each ward sees its own regions' words and nothing else.
func TestPeekKeepsToTheRegions(t *testing.T) {
	p := several()
	x := boot(t, text(p))
	for at := 68; at < 160; at++ {
		x.memory[at] = uint32(1000 + at)
	}
	for i, w := range p.Wards {
		want := map[uint32]peeked{}
		for _, r := range w.Regions {
			for k := range r.Words {
				want[uint32(r.First+k)] = peeked{uint32(1000 + r.Base + k), api.OK}
			}
		}
		for a := range uint32(70000) {
			expected, ok := want[a]
			if !ok {
				expected = peeked{0, api.ErrAddress}
			}
			if word, e := x.Peek(i, a); (peeked{word, e}) != expected {
				t.Errorf("P8: Peek(%d, %d) = %d, %d, want %v", i, a, word, e, expected)
			}
		}
	}
}

func TestPeekFarOut(t *testing.T) {
	x := boot(t, text(several()))
	for _, a := range []uint32{1 << 16, 1<<16 + 300, 1 << 31, 1<<31 + 300, math.MaxUint32, math.MaxUint32 - 300} {
		for i := range 3 {
			if w, e := x.Peek(i, a); w != 0 || e != api.ErrAddress {
				t.Errorf("P8: Peek(%d, %d) = %#x, %d", i, a, w, e)
			}
		}
	}
}

func TestPeekWhateverTheRights(t *testing.T) {
	for rights := 1; rights <= 7; rights++ {
		p := with(plan.Region{First: 3, Words: 2, Base: 40, Rights: rights})
		p.Wards[0].Program = []uint32{11, 12}
		x := boot(t, text(p))
		for i, want := range p.Wards[0].Program {
			if w, e := x.Peek(0, uint32(3+i)); w != want || e != api.OK {
				t.Errorf("P8: the rights %d: Peek(0, %d) = %d, %d, want %d", rights, 3+i, w, e, want)
			}
		}
	}
}

package wards

import (
	"math"
	"slices"
	"strconv"
	"strings"
	"testing"

	"wards/api"
	"wards/plan"
)

func decimal(v int) string { return strconv.Itoa(v) }

// seen is all that is to be seen of a kernel, at once or by what its wards read later on.
type seen struct {
	clock   int
	words   []uint32
	views   []api.View
	logs    []string
	latches []uint32
}

func look(x *Kernel) seen { return seen{x.Clock(), words(x), views(x), logs(x), latches(x)} }

func (a seen) equals(b seen) bool {
	return a.clock == b.clock && slices.Equal(a.words, b.words) && slices.Equal(a.views, b.views) &&
		slices.Equal(a.logs, b.logs) && slices.Equal(a.latches, b.latches)
}

// images has some that are right, of unlike shape.
func images() []string {
	full := programs(echo(), []uint32{call(api.Send)}, []uint32{code(api.Mul, 0, 0, 0), call(api.Receive)}, []uint32{load(2, 5), call(api.Send), call(api.Yield), call(api.Send)})
	for range api.MaxWires {
		full.Wires = append(full.Wires, plan.Wire{From: 3, To: 2})
	}
	full.Owners = []int{3, 0, 1, 0, 0, 2, 0, 0}
	return []string{document, text(several()), text(ordinary(1)), text(full)}
}

func TestTextsCutOff(t *testing.T) {
	for _, s := range images() {
		boot(t, s)
		for n := range len(s) {
			mustAnswer(t, []example{{"cut off at " + decimal(n), s[:n], api.ErrImage}})
		}
	}
}

func TestTextsWithMore(t *testing.T) {
	for _, s := range images() {
		for b := range 256 {
			mustAnswer(t, []example{{"a byte more", s + string([]byte{byte(b)}), api.ErrImage}})
		}
		mustAnswer(t, []example{{"twice", s + s, api.ErrImage}, {"much more", s + strings.Repeat("\x00", 1<<20), api.ErrImage}})
	}
}

func TestTextsOfNoKind(t *testing.T) {
	for _, s := range []string{"", "\x00", "image", "\xff", strings.Repeat("\xff", 1<<20), strings.Repeat("\x00", 1<<20), strings.Repeat("\x01", 1<<20), strings.Repeat("é", 1000)} {
		mustAnswer(t, []example{{decimal(len(s)) + " bytes", s, api.ErrImage}})
	}
}

// TestEveryByteChanged: Check and Boot answer alike of whatever text, and a kernel that Boot gives runs and can be looked at.
func TestEveryByteChanged(t *testing.T) {
	for _, s := range images() {
		for i := range s {
			for b := range 256 {
				changed := s[:i] + string([]byte{byte(b)}) + s[i+1:]
				e := Check(changed)
				if e < api.OK || e > api.ErrWiring {
					t.Fatalf("P2: Check(%x) = %d", changed, e)
				}
				mustAnswer(t, []example{{"a byte changed", changed, e}})
				if x, _ := Boot(changed); x != nil {
					run(t, x, 100)
					if len(views(x)) != int(changed[0]) {
						t.Fatalf("P3: Boot(%x): %d wards", changed, len(views(x)))
					}
				}
			}
		}
	}
}

// TestErrorsChangeNothing: calls with numbers far out of bounds end, and leave the kernel as it was.
func TestErrorsChangeNothing(t *testing.T) {
	for _, s := range images() {
		x := boot(t, s)
		for d := range x.devices {
			mustLatch(t, x, d, uint32(d+1))
		}
		run(t, x, 200)
		before := look(x)
		for _, n := range append(outside, api.MaxMemory, -api.MaxRun) {
			if n < 1 {
				x.Run(n)
			}
			x.Word(n)
			x.View(n)
			x.Peek(n, 0)
			x.Peek(n, math.MaxUint32)
			x.Latch(n, 5)
			x.Log(n)
		}
		for _, a := range []uint32{api.Devices, 1 << 31, math.MaxUint32} {
			x.Peek(0, a)
		}
		if after := look(x); !after.equals(before) {
			t.Errorf("P1: of %x: %+v became %+v", s, before, after)
		}
	}
}

// TestLookingChangesNothing: what is told of a kernel is the same however often it is asked.
func TestLookingChangesNothing(t *testing.T) {
	x := boot(t, text(several()))
	first := look(x)
	for a := range uint32(400) {
		x.Peek(int(a%3), a)
		x.Log(int(a % 3))
	}
	if again := look(x); !again.equals(first) {
		t.Errorf("P1: %+v became %+v", first, again)
	}
}

// TestKernelsBesideOneAnother: what happens to one of two kernels, of one image too, is not to be seen of the other.
func TestKernelsBesideOneAnother(t *testing.T) {
	for _, s := range images() {
		for _, other := range images() {
			x := boot(t, s)
			before := look(x)
			y := boot(t, other)
			if after := look(x); !after.equals(before) {
				t.Errorf("P1: Boot of %x changed a kernel of %x", other, s)
			}
			for i := range y.devices {
				mustLatch(t, y, i, 0xdeadbeef)
			}
			run(t, y, 500)
			spoil(y)
			if after := look(x); !after.equals(before) {
				t.Errorf("P1: a kernel of %x changed with one of %x", s, other)
			}
			if w, e := x.Peek(0, math.MaxUint32); w != 0 || e != api.ErrAddress {
				t.Errorf("P1: a kernel of %x has a region of one of %x", s, other)
			}
			z := boot(t, s)
			if !look(z).equals(before) {
				t.Errorf("P1: Boot of %x answers otherwise behind one of %x", s, other)
			}
			run(t, x, 500)
			run(t, z, 500)
			if !look(z).equals(look(x)) {
				t.Errorf("P1: a kernel of %x runs otherwise behind one of %x", s, other)
			}
		}
	}
}

// spoil changes all that a kernel keeps, in place.
func spoil(x *Kernel) {
	x.clock = 77
	x.table.Gap = 1000
	for i := range x.wires {
		x.wires[i] = plan.Wire{From: 9, To: 9}
	}
	for i := range x.memory {
		x.memory[i] = 0xdeadbeef
	}
	for i := range x.devices {
		x.devices[i].latched = 0xdeadbeef
		x.devices[i].put(0xdeadbeef)
		x.devices[i].log[0] = 'x'
	}
	for i := range x.wards {
		x.table.Quanta[i] = 1000
		x.wards[i].Regs[0] = 1
		x.wards[i].Place = 99
		for k := range x.wards[i].regions {
			x.wards[i].regions[k] = plan.Region{First: math.MaxUint32, Words: 1}
		}
		for k := range x.wards[i].devices {
			x.wards[i].devices[k] = 99
		}
	}
}

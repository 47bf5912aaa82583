package wards

import (
	"strings"
	"testing"

	"wards/api"
	"wards/plan"
)

// document is the image of DOC.md's section Examples, byte by byte.
const document = "\x01\x01\x00\x80\x00\x00" +
	"\x08\x01\x00\x00\x00\x00\x00\x10\x00\x40\x07" +
	"\x00\x03\x01\x00\x00\x05\x01\x10\x00\x07\x04\x01\x00\x00"

// number gives a number as so many bytes, the high one first.
func number(bytes, v int) string {
	s := ""
	for range bytes {
		s = string([]byte{byte(v)}) + s
		v >>= 8
	}
	return s
}

// text writes a plan as an image, also one that is out of bounds.
func text(p plan.Plan) string {
	s := number(1, len(p.Wards)) + number(1, p.Gap) + number(2, p.Memory) + number(1, len(p.Wires)) + number(1, len(p.Owners))
	for _, w := range p.Wards {
		s += wardText(w)
	}
	for _, w := range p.Wires {
		s += number(1, w.From) + number(1, w.To)
	}
	for _, ward := range p.Owners {
		s += number(1, ward)
	}
	return s
}

func wardText(w plan.Ward) string {
	var s strings.Builder
	s.WriteString(number(1, w.Quantum) + number(1, len(w.Regions)) + number(2, int(w.Begin)))
	for _, r := range w.Regions {
		s.WriteString(number(2, r.First) + number(2, r.Words) + number(2, r.Base) + number(1, r.Rights))
	}
	s.WriteString(number(2, len(w.Program)))
	for _, v := range w.Program {
		s.WriteString(number(4, int(v)))
	}
	return s.String()
}

// ordinary gives so many wards of 8 words each, from the word 100 on, in a memory of 200.
func ordinary(count int) plan.Plan {
	p := plan.Plan{Gap: 1, Memory: 200}
	for i := range count {
		p.Wards = append(p.Wards, plan.Ward{Quantum: 1, Regions: []plan.Region{{First: 0, Words: 8, Base: 100 + 8*i, Rights: 7}}})
	}
	return p
}

// with gives one ward with these regions, in a memory of 200 words. Its K is 32.
func with(regions ...plan.Region) plan.Plan {
	p := ordinary(1)
	p.Wards[0].Regions = regions
	return p
}

// wired gives two ordinary wards and these wires.
func wired(wires ...plan.Wire) plan.Plan {
	p := ordinary(2)
	p.Wires = wires
	return p
}

// owned gives two ordinary wards and these devices.
func owned(owners ...int) plan.Plan {
	p := ordinary(2)
	p.Owners = owners
	return p
}

// several is a plan of three unlike wards, with wires and devices. Its K is 16 + 48 + 4 = 68.
func several() plan.Plan {
	return plan.Plan{
		Gap:    16,
		Memory: 160,
		Wards: []plan.Ward{
			{Quantum: 5, Begin: 300, Regions: []plan.Region{{First: 300, Words: 4, Base: 150, Rights: 5}, {First: 0, Words: 10, Base: 100, Rights: 3}}, Program: []uint32{7, 8, 1<<32 - 1}},
			{Quantum: 64, Begin: 0xffff, Regions: []plan.Region{{First: 32767, Words: 1, Base: 120, Rights: 1}}},
			{Quantum: 1, Begin: 2, Regions: []plan.Region{{First: 299, Words: 2, Base: 68, Rights: 2}, {First: 5, Words: 1, Base: 70, Rights: 4}, {First: 301, Words: 6, Base: 154, Rights: 6}}, Program: []uint32{0x12345678, 9}},
		},
		Wires:  []plan.Wire{{From: 0, To: 1}, {From: 2, To: 0}},
		Owners: []int{1, 1, 0},
	}
}

func boot(t *testing.T, image string) *Kernel {
	t.Helper()
	x, e := Boot(image)
	if x == nil || e != api.OK {
		t.Fatalf("P3: Boot(%x): %d", image, e)
	}
	return x
}

// all gives all that a call tells, from 0 on.
func all[T any](tell func(int) (T, api.Errno)) []T {
	var l []T
	for {
		v, e := tell(len(l))
		if e != api.OK {
			return l
		}
		l = append(l, v)
	}
}

// words gives all the memory's words.
func words(x *Kernel) []uint32 { return all(x.Word) }

// views gives all the wards' views.
func views(x *Kernel) []api.View { return all(x.View) }

// logs gives all the devices' logs.
func logs(x *Kernel) []string { return all(x.Log) }

// latches gives what the devices have latched.
func latches(x *Kernel) []uint32 {
	var l []uint32
	for _, d := range x.devices {
		l = append(l, d.latched)
	}
	return l
}

// logText gives words as a log tells them.
func logText(words ...uint32) string {
	s := ""
	for _, w := range words {
		s += number(4, int(w))
	}
	return s
}

// code gives an instruction.
func code(c, a, b, n int) uint32 { return uint32(c<<24 | a<<20 | b<<16 | n) }

// load gives the instruction that gives a register a number.
func load(register, n int) uint32 { return code(api.Load, register, 0, n) }

// call gives the instruction that calls the kernel.
func call(n int) uint32 { return code(api.Call, 0, 0, n) }

// programs gives a ward for each program: a quantum of 64, 16 words from address 0 on, in the memory from 200 + 16 times its number on.
func programs(list ...[]uint32) plan.Plan {
	p := plan.Plan{Gap: 1, Memory: 300}
	for i, program := range list {
		p.Wards = append(p.Wards, plan.Ward{Quantum: 64, Regions: []plan.Region{{First: 0, Words: 16, Base: 200 + 16*i, Rights: 7}}, Program: program})
	}
	return p
}

// timed gives a plan another gap, and its wards other quanta.
func timed(p plan.Plan, gap int, quanta ...int) plan.Plan {
	p.Gap = gap
	for i, q := range quanta {
		p.Wards[i].Quantum = q
	}
	return p
}

// owning gives a plan devices, by their owners.
func owning(p plan.Plan, owners ...int) plan.Plan {
	p.Owners = owners
	return p
}

// echo tells its first device what that one has latched, over and over, 5 cycles a word.
func echo() []uint32 {
	return []uint32{load(6, api.Devices), code(api.Get, 1, 6, 0), code(api.Put, 1, 6, 1), code(api.Jump, 0, 0, 1)}
}

func run(t *testing.T, x *Kernel, n int) {
	t.Helper()
	if done := x.Run(n); done != n {
		t.Fatalf("P4: Run(%d) = %d", n, done)
	}
}

func view(t *testing.T, x *Kernel, ward int) api.View {
	t.Helper()
	v, e := x.View(ward)
	if e != api.OK {
		t.Fatalf("P8: View(%d): %d", ward, e)
	}
	return v
}

// mustView holds a ward's view against what it must be.
func mustView(t *testing.T, why string, x *Kernel, ward int, want api.View) {
	t.Helper()
	if v := view(t, x, ward); v != want {
		t.Errorf("%s: ward %d is %+v, want %+v", why, ward, v, want)
	}
}

// mustHave holds words of the memory, from one on, against what they must be.
func mustHave(t *testing.T, why string, x *Kernel, at int, want ...uint32) {
	t.Helper()
	for i, v := range want {
		if w, e := x.Word(at + i); w != v || e != api.OK {
			t.Errorf("%s: the word %d is %#x, %d, want %#x", why, at+i, w, e, v)
		}
	}
}

// mustLatch has a device latch a word.
func mustLatch(t *testing.T, x *Kernel, device int, word uint32) {
	t.Helper()
	if e := x.Latch(device, word); e != api.OK {
		t.Errorf("P7: Latch(%d, %#x) = %d", device, word, e)
	}
}

// mustLog holds a device's log against the words that it must have.
func mustLog(t *testing.T, why string, x *Kernel, device int, want ...uint32) {
	t.Helper()
	if s, e := x.Log(device); s != logText(want...) || e != api.OK {
		t.Errorf("%s: Log(%d) = %x, %d, want %x", why, device, s, e, logText(want...))
	}
}

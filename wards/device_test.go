package wards

import (
	"math"
	"slices"
	"strings"
	"testing"

	"wards/api"
	"wards/plan"
)

// TestDevicesThereAreAndNone: of each number of devices that an image may have.
func TestDevicesThereAreAndNone(t *testing.T) {
	for count := range api.MaxDevices + 1 {
		x := boot(t, text(owning(ordinary(2), make([]int, count)...)))
		before := look(x)
		for _, d := range append(outside, count, count+1, 256, 1<<62) {
			if e := x.Latch(d, 7); e != api.ErrDevice {
				t.Errorf("P7: %d devices: Latch(%d): %d", count, d, e)
			}
			if s, e := x.Log(d); s != "" || e != api.ErrDevice {
				t.Errorf("P7: %d devices: Log(%d): %x, %d", count, d, s, e)
			}
		}
		if !look(x).equals(before) {
			t.Errorf("P1: %d devices: others change something", count)
		}
		for d := range count {
			mustLog(t, "P3", x, d)
			mustLatch(t, x, d, 7)
			mustLog(t, "P7: an input is no output", x, d)
		}
	}
}

// TestLatchSetsOneInputAlone: nothing else is changed, and the last word counts.
func TestLatchSetsOneInputAlone(t *testing.T) {
	for d := range 4 {
		x := boot(t, text(owning(programs(echo(), counter()), 1, 0, 0, 1)))
		run(t, x, 100)
		want := look(x)
		for _, word := range []uint32{1, 0, math.MaxUint32, 0x80000000, 0x12345678} {
			mustLatch(t, x, d, word)
			want.latches[d] = word
			if got := look(x); !got.equals(want) {
				t.Errorf("P7: Latch(%d, %#x): %+v, want %+v", d, word, got, want)
			}
		}
	}
}

// TestLatchesAreNoughtsBehindBoot: so says each input, and each log is empty, also where another kernel had them filled.
func TestLatchesAreNoughtsBehindBoot(t *testing.T) {
	var program []uint32
	for k := range api.MaxDevices {
		program = append(program, code(api.Get, 1, 2, api.Devices+2*k), code(api.Or, 3, 1, 0))
	}
	image := text(owning(programs(program), make([]int, api.MaxDevices)...))
	for range 2 {
		x := boot(t, image)
		run(t, x, 3*api.MaxDevices)
		mustView(t, "P3", x, 0, api.View{Place: 2 * api.MaxDevices})
		if got := logs(x); !slices.Equal(got, make([]string, api.MaxDevices)) {
			t.Errorf("P3: the logs are %x", got)
		}
		for d := range api.MaxDevices {
			mustLatch(t, x, d, math.MaxUint32)
		}
	}
}

// TestLatchAtAllTimes: from the cycle on that follows, whether that is the ward's, another's or a gap's, the input is this word.
func TestLatchAtAllTimes(t *testing.T) {
	// A round has 24 cycles: the echo's turn is 5 to 21. Of all the cycles of its turns the first one loads; then it gets a word every 5.
	p := owning(timed(programs(counter(), echo()), 2, 3, 17), 1)
	for cycle := range 3 * 24 {
		x := boot(t, text(p))
		mustLatch(t, x, 0, 0x01020304)
		run(t, x, cycle)
		mustLatch(t, x, 0, 0xfefdfcfb)
		run(t, x, 4*24-cycle)
		var want []uint32
		turn := 0 // cycles of the echo's turns
		for c := range 4 * 24 {
			if k := c % 24; k < 5 || k >= 22 {
				continue
			}
			word := uint32(0x01020304)
			if c >= cycle {
				word = 0xfefdfcfb
			}
			// It is put 2 cycles after it was got; what the last turn got too late isn't there yet.
			if turn%5 == 1 && turn+2 < 4*17 {
				want = append(want, word)
			}
			turn++
		}
		mustLog(t, "P7: latched ahead of cycle "+decimal(cycle), x, 0, want...)
	}
}

// TestGetTakesTheWordWithItsFirstCycle: what is latched while it is busy is for the next one.
func TestGetTakesTheWordWithItsFirstCycle(t *testing.T) {
	x := boot(t, text(owning(programs([]uint32{code(api.Get, 1, 7, api.Devices), code(api.Get, 2, 7, api.Devices)}), 0)))
	mustLatch(t, x, 0, 5)
	run(t, x, 1)
	mustView(t, "P5", x, 0, api.View{Regs: [8]uint32{1: 5}, Place: 1, Busy: 1})
	mustLatch(t, x, 0, 6)
	mustView(t, "P7", x, 0, api.View{Regs: [8]uint32{1: 5}, Place: 1, Busy: 1})
	run(t, x, 1)
	mustView(t, "P5", x, 0, api.View{Regs: [8]uint32{1: 5}, Place: 1})
	run(t, x, 2)
	mustView(t, "P5", x, 0, api.View{Regs: [8]uint32{1: 5, 2: 6}, Place: 2})
}

// TestAnInputKeepsItsWord: however often it is read, and whatever is put to the output.
func TestAnInputKeepsItsWord(t *testing.T) {
	x := boot(t, text(owning(timed(programs(echo()), 1, 16), 0)))
	mustLatch(t, x, 0, 0x0a0b0c0d)
	run(t, x, 17*5)
	mustLog(t, "P7", x, 0, slices.Repeat([]uint32{0x0a0b0c0d}, 16)...)
}

// TestPutAppendsWithItsFirstCycle: behind that cycle the word is there, once.
func TestPutAppendsWithItsFirstCycle(t *testing.T) {
	x := boot(t, text(owning(programs([]uint32{load(1, 9), code(api.Put, 1, 7, api.Devices+1), load(1, 8)}), 0)))
	run(t, x, 1)
	mustLog(t, "P7: ahead of Put", x, 0)
	run(t, x, 1)
	mustLog(t, "P7: behind its first cycle", x, 0, 9)
	mustView(t, "P5", x, 0, api.View{Regs: [8]uint32{1: 9}, Place: 2, Busy: 1})
	run(t, x, 1)
	mustLog(t, "P7: behind Put", x, 0, 9)
	mustView(t, "P5", x, 0, api.View{Regs: [8]uint32{1: 9}, Place: 2})
	run(t, x, 2)
	mustLog(t, "P7", x, 0, 9)
}

// TestLogsBytes: each word has four, the high one first.
func TestLogsBytes(t *testing.T) {
	x := boot(t, text(owning(timed(programs(echo()), 1, 5), 0)))
	run(t, x, 1) // from now on each word is got with the first cycle of five
	want := ""
	for _, c := range []struct {
		word  uint32
		bytes string
	}{
		{0x01020304, "\x01\x02\x03\x04"}, {0, "\x00\x00\x00\x00"}, {math.MaxUint32, "\xff\xff\xff\xff"}, {0x80000000, "\x80\x00\x00\x00"},
		{1, "\x00\x00\x00\x01"}, {0x00ff0000, "\x00\xff\x00\x00"}, {0xc3a9, "\x00\x00\xc3\xa9"}, {0x7fffffff, "\x7f\xff\xff\xff"},
	} {
		mustLatch(t, x, 0, c.word)
		run(t, x, 6)
		want += c.bytes
		if s, e := x.Log(0); s != want || e != api.OK {
			t.Errorf("P7: Log(0) = %x, %d, want %x", s, e, want)
		}
	}
}

// TestLogsOfSeveralWards: each ward's words are in its own devices' logs, in the order in which they were put.
func TestLogsOfSeveralWards(t *testing.T) {
	tell := func(words ...int) []uint32 {
		l := []uint32{load(6, api.Devices)}
		for i, w := range words {
			l = append(l, load(1, w), code(api.Put, 1, 6, 1+2*(i%2)))
		}
		return append(l, call(api.Halt))
	}
	p := programs(tell(10, 11, 12, 13, 14), tell(20, 21, 22, 23), []uint32{call(api.Halt)}, tell(30, 31, 32))
	x := boot(t, text(owning(timed(p, 2, 2, 1, 5, 3), 3, 0, 1, 3, 1, 0)))
	run(t, x, 300)
	for d, want := range [][]uint32{{30, 32}, {10, 12, 14}, {20, 22}, {31}, {21, 23}, {11, 13}} {
		mustLog(t, "P7", x, d, want...)
	}
	for _, i := range []int{0, 1, 3} {
		if v := view(t, x, i); v.Status != api.Halted {
			t.Errorf("P5: ward %d is %+v", i, v)
		}
	}
}

// TestALogIsNotTakenBack: what it told once stays, and is the beginning of what it tells later.
func TestALogIsNotTakenBack(t *testing.T) {
	x := boot(t, text(owning(programs(echo()), 0)))
	told := []string{""}
	for i := range uint32(50) {
		mustLatch(t, x, 0, 0x01010101*i)
		run(t, x, 1+int(i)%7)
		s, _ := x.Log(0)
		told = append(told, s)
	}
	for i, s := range told[1:] {
		if !strings.HasPrefix(s, told[i]) {
			t.Errorf("P7: %x became %x", told[i], s)
		}
	}
	if last := told[len(told)-1]; len(last) < 4*20 {
		t.Errorf("P7: the log is %x", last)
	}
}

// TestALongLog: no word is lost, over the longest runs.
func TestALongLog(t *testing.T) {
	p := owning(programs([]uint32{load(1, 1), code(api.Add, 0, 1, 0), code(api.Put, 0, 7, api.Devices+1), code(api.Jump, 0, 0, 1)}), 0)
	x := boot(t, text(p))
	for range 3 {
		x.Run(api.MaxRun)
	}
	s, _ := x.Log(0)
	// 4615 rounds of 65 cycles and 25 more: 295385 cycles of turns, the first of which loads; then 4 a word, of which the third has put it.
	if len(s) != 4*73846 {
		t.Fatalf("P7: the log has %d bytes, want %d", len(s), 4*73846)
	}
	for i := range len(s) / 4 {
		if s[4*i:4*i+4] != number(4, i+1) {
			t.Fatalf("P7: the log's word %d is %x", i, s[4*i:4*i+4])
		}
	}
}

// reach has a ward do its first instruction, with an address in register 2, and tells what was to be seen ahead of that.
func reach(t *testing.T, p plan.Plan, ward int, address uint32) (*Kernel, seen) {
	t.Helper()
	x := boot(t, text(p))
	run(t, x, 65*ward)
	regs := marked()
	regs[2] = address
	prepare(x, ward, regs)
	for d := range x.devices {
		mustLatch(t, x, d, uint32(1000+d))
	}
	before := look(x)
	run(t, x, 1)
	return x, before
}

// devicesOf lists the devices of a ward.
func devicesOf(p plan.Plan, ward int) []int {
	var l []int
	for d, owner := range p.Owners {
		if owner == ward {
			l = append(l, d)
		}
	}
	return l
}

// TestWhereDevicesStand: at each address around Devices, of wards with several devices, with one and with none.
func TestWhereDevicesStand(t *testing.T) {
	for _, owners := range [][]int{nil, {0}, {1}, {2, 0, 2, 2, 0}, {0, 1, 0, 1, 0, 1, 0, 1}, {2, 2, 2, 2, 1, 1, 1, 0}, {1, 1, 1, 1, 1, 1, 1, 1}} {
		for _, c := range []int{api.Get, api.Put} {
			program := []uint32{code(c, 3, 2, 0)}
			p := owning(programs(program, program, program), owners...)
			for ward := range 3 {
				own := devicesOf(p, ward)
				for k := -3; k < 2*api.MaxDevices+4; k++ {
					mustReach(t, p, ward, c, uint32(api.Devices+k), own)
				}
			}
		}
	}
}

// mustReach holds what Get or Put of register 3 at an address does against which devices the ward has.
func mustReach(t *testing.T, p plan.Plan, ward, code int, address uint32, own []int) {
	t.Helper()
	x, want := reach(t, p, ward, address)
	v := &want.views[ward]
	k := int(address) - api.Devices
	switch {
	case k >= 0 && k < 2*len(own) && k%2 == 0 && code == api.Get:
		v.Regs[3], v.Place, v.Busy = uint32(1000+own[k/2]), 1, 1
	case k >= 0 && k < 2*len(own) && k%2 == 1 && code == api.Put:
		v.Place, v.Busy = 1, 1
		want.logs[own[k/2]] = logText(93)
	default:
		v.Status, v.Cause = api.Parked, api.Fault
	}
	want.clock++
	want.words[1]++
	if got := look(x); !got.equals(want) {
		t.Errorf("P7: devices %v: ward %d does %d at %#x: %+v, want %+v", p.Owners, ward, code, address, got, want)
	}
}

// TestAddressesFarBehindDevices: a word has more bits than there are addresses of devices.
func TestAddressesFarBehindDevices(t *testing.T) {
	owners := slices.Repeat([]int{0}, api.MaxDevices)
	for _, c := range []int{api.Get, api.Put} {
		p := owning(programs([]uint32{code(c, 3, 2, 0)}), owners...)
		for k := range uint32(2) {
			for _, base := range []uint32{1 << 16, 1<<16 + api.Devices, 1 << 17, 1 << 24, 1<<31 - 2, 1 << 31, 1<<31 + api.Devices, math.MaxUint32 - 1, math.MaxUint32 - api.Devices} {
				mustReach(t, p, 0, c, base+k, devicesOf(p, 0))
			}
		}
	}
}

// TestDevicesByBothPartsOfAnAddress: b + n, also where it goes round.
func TestDevicesByBothPartsOfAnAddress(t *testing.T) {
	for _, c := range []struct {
		b  uint32
		n  int
		ok bool
	}{
		{0, 32770, true}, {2, 32768, true}, {32768, 2, true}, {32770, 0, true}, {32767, 3, true}, {1 << 15, 32768, false}, {1 << 16, 32770, false},
		{math.MaxUint32, 32771, true}, {math.MaxUint32 - 32765, 65535, false}, {math.MaxUint32 - 32764, 65535, true}, {math.MaxUint32, 0, false},
	} {
		x := boot(t, text(owning(programs([]uint32{code(api.Get, 1, 2, c.n)}), 0, 0)))
		mustLatch(t, x, 1, 77)
		prepare(x, 0, [8]uint32{2: c.b})
		run(t, x, 1)
		want := api.View{Regs: [8]uint32{2: c.b}, Status: api.Parked, Cause: api.Fault}
		if c.ok {
			want = api.View{Regs: [8]uint32{1: 77, 2: c.b}, Place: 1, Busy: 1}
		}
		mustView(t, "P5: an input at "+decimal(int(c.b))+" + "+decimal(c.n), x, 0, want)
	}
}

// TestFetchingFromDevices: neither an input that has latched an instruction nor an output can be done.
func TestFetchingFromDevices(t *testing.T) {
	for k := range 6 {
		for _, begin := range []bool{true, false} {
			p := owning(programs([]uint32{code(api.Jump, 0, 0, api.Devices+k)}), 0, 0)
			if begin {
				p.Wards[0].Begin = uint32(api.Devices + k)
			}
			x := boot(t, text(p))
			mustLatch(t, x, 0, load(1, 5))
			mustLatch(t, x, 1, load(1, 6))
			want := look(x)
			run(t, x, 3)
			want.clock, want.words[1] = 3, 3
			want.views[0] = api.View{Place: uint32(api.Devices + k), Status: api.Parked, Cause: api.Fault}
			if got := look(x); !got.equals(want) {
				t.Errorf("P7: an instruction at Devices + %d: %+v, want %+v", k, got, want)
			}
		}
	}
}

// TestOverTheEndOfRegionsIntoDevices: the place goes on from the last address of a region to the first of devices, and faults there.
func TestOverTheEndOfRegionsIntoDevices(t *testing.T) {
	p := owning(with(plan.Region{First: 32766, Words: 2, Base: 100, Rights: 7}), 0)
	p.Wards[0].Quantum, p.Wards[0].Begin = 9, 32766
	p.Wards[0].Program = []uint32{code(api.Get, 1, 2, 32768), code(api.Put, 1, 2, 32769)}
	x := boot(t, text(p))
	mustLatch(t, x, 0, load(3, 5))
	run(t, x, 9)
	mustView(t, "P5", x, 0, api.View{Regs: [8]uint32{1: load(3, 5)}, Place: 32768, Status: api.Parked, Cause: api.Fault})
	mustLog(t, "P7", x, 0, load(3, 5))
}

// TestDevicesAskForNoRights: regions have rights, devices an owner.
func TestDevicesAskForNoRights(t *testing.T) {
	x := boot(t, text(owning(apart(plan.Read, echo()...), 0)))
	mustLatch(t, x, 0, 3)
	run(t, x, 20)
	mustLog(t, "P7", x, 0, 3, 3, 3, 3)
}

// TestPeekSeesNoDevices: they stand in no region.
func TestPeekSeesNoDevices(t *testing.T) {
	x := boot(t, text(owning(programs(echo()), 0, 0)))
	mustLatch(t, x, 0, 3)
	run(t, x, 20)
	for k := range uint32(5) {
		if w, e := x.Peek(0, api.Devices+k); w != 0 || e != api.ErrAddress {
			t.Errorf("P8: Peek(0, Devices + %d) = %d, %d", k, w, e)
		}
	}
}

// TestALogBehindACause: a parked ward's log stays as it was.
func TestALogBehindACause(t *testing.T) {
	program := []uint32{load(1, 7), code(api.Put, 1, 6, api.Devices+1), code(api.Put, 1, 6, api.Devices), code(api.Put, 1, 6, api.Devices+1)}
	x := boot(t, text(owning(timed(programs(program), 1, 8), 0)))
	mustLatch(t, x, 0, 9)
	run(t, x, 100)
	mustView(t, "P5", x, 0, api.View{Regs: [8]uint32{1: 7}, Place: 2, Status: api.Parked, Cause: api.Fault})
	mustLog(t, "P7", x, 0, 7)
	if got := latches(x); !slices.Equal(got, []uint32{9}) {
		t.Errorf("P7: the latches are %v", got)
	}
}

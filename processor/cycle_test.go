package processor

import (
	"maps"
	"math"
	"testing"

	"wards/api"
)

// store is an outside that has some words, all to fetch, to get and to put, and that hears the kernel's calls.
type store struct {
	words map[uint32]uint32
	calls []uint32
	do    func(*State) int // what a call does
}

func (o *store) Fetch(address uint32) (uint32, bool) { return o.Get(address) }

func (o *store) Get(address uint32) (uint32, bool) {
	word, ok := o.words[address]
	return word, ok
}

func (o *store) Put(address, word uint32) bool {
	_, ok := o.words[address]
	if ok {
		o.words[address] = word
	}
	return ok
}

func (o *store) Call(s *State, number uint32) int {
	o.calls = append(o.calls, number)
	return o.do(s)
}

// word gives an instruction.
func word(code, a, b, n int) uint32 { return uint32(code<<24 | a<<20 | b<<16 | n) }

// holding gives a store with an instruction at the place 100, and a word at 500.
func holding(instruction uint32) *store {
	return &store{words: map[uint32]uint32{100: instruction, 500: 0xabcd0123}, do: func(*State) int { return api.None }}
}

// ready gives a running state at the place 100, with these first registers; the others have numbers of their own.
func ready(regs ...uint32) State {
	s := State{Regs: [8]uint32{1000, 1001, 1002, 1003, 1004, 1005, 1006, 1007}, Place: 100}
	copy(s.Regs[:], regs)
	return s
}

// done is what a code does: to register a (or to the place), and its cycles.
type done struct {
	code, n int
	a, b    uint32
	want    uint32
	cycles  int
}

// reckonings has the codes that give register a a word, by their numbers in the document.
func reckonings() []done {
	const top, all = 1 << 31, 1<<32 - 1
	return []done{
		{1, 0, 7, 9, 0, 1}, {1, 65535, 7, 9, 65535, 1}, {1, 32768, 7, 9, 32768, 1},
		{2, 7, 5, 9, 5<<16 + 7, 1}, {2, 65535, 0x12345678, 9, 0x5678ffff, 1}, {2, 0, all, 9, 0xffff0000, 1}, {2, 1, 0xffff0000, 9, 1, 1},
		{3, 0, 5, 9, 9, 1}, {3, 65535, 5, 0, 0, 1}, {3, 0, 5, all, all, 1},
		{4, 0, 5, 9, 14, 1}, {4, 65535, all, 1, 0, 1}, {4, 0, all, all, all - 1, 1}, {4, 0, top, top, 0, 1},
		{5, 0, 9, 5, 4, 1}, {5, 65535, 5, 9, all - 3, 1}, {5, 0, 0, 1, all, 1}, {5, 0, 7, 7, 0, 1},
		{6, 0, 5, 9, 45, 3}, {6, 65535, 65536, 65536, 0, 3}, {6, 0, all, all, 1, 3}, {6, 0, 65537, 65537, 131073, 3},
		{7, 0, 45, 9, 5, 5}, {7, 65535, 44, 9, 4, 5}, {7, 0, all, 1, all, 5}, {7, 0, all, all, 1, 5}, {7, 0, top, all, 0, 5}, {7, 0, all, 2, top - 1, 5}, {7, 0, 0, 3, 0, 5},
		{8, 65535, 12, 10, 8, 1}, {8, 0, all, top, top, 1}, {8, 0, 0x0f0f0f0f, 0xf0f0f0f0, 0, 1},
		{9, 65535, 12, 10, 14, 1}, {9, 0, top, 1, top + 1, 1}, {9, 0, 0x0f0f0f0f, 0xf0f0f0f0, all, 1},
		{10, 65535, 12, 10, 6, 1}, {10, 0, all, all, 0, 1}, {10, 0, all, top, top - 1, 1},
		{11, 65535, 3, 0, 3, 1}, {11, 0, 3, 1, 6, 1}, {11, 0, 3, 31, top, 1}, {11, 0, 3, 32, 3, 1}, {11, 0, 3, 33, 6, 1}, {11, 0, 3, all, top, 1}, {11, 0, all, 16, 0xffff0000, 1},
		{12, 65535, 6, 0, 6, 1}, {12, 0, 6, 1, 3, 1}, {12, 0, top, 31, 1, 1}, {12, 0, top, 32, top, 1}, {12, 0, all, 33, top - 1, 1}, {12, 0, all, all, 1, 1}, {12, 0, all, 16, 0xffff, 1},
		{13, 500, 5, 0, 0xabcd0123, 2}, {13, 0, 5, 500, 0xabcd0123, 2}, {13, 499, 5, 1, 0xabcd0123, 2}, {13, 501, 5, all, 0xabcd0123, 2}, {13, 65535, 5, 1<<32 - 65535 + 500, 0xabcd0123, 2},
	}
}

func TestCodesThatReckon(t *testing.T) {
	for _, c := range reckonings() {
		s := ready(0, 0, c.a, c.b)
		want := s
		want.Regs[2], want.Place, want.Busy = c.want, 101, c.cycles-1
		s.Cycle(holding(word(c.code, 2, 3, c.n)))
		if s != want {
			t.Errorf("P5: code %d of %#x, %#x and %d: %+v, want %+v", c.code, c.a, c.b, c.n, s, want)
		}
	}
}

// TestCodesOfOneRegister: a and b may name the same one.
func TestCodesOfOneRegister(t *testing.T) {
	for code, want := range map[int]uint32{3: 7, 4: 14, 5: 0, 6: 49, 7: 1, 8: 7, 9: 7, 10: 0, 11: 7 << 7, 12: 0} {
		s := ready(7)
		s.Cycle(holding(word(code, 0, 0, 0)))
		if s.Regs[0] != want {
			t.Errorf("P5: code %d of register 0 twice: %d, want %d", code, s.Regs[0], want)
		}
	}
	s := ready(500)
	s.Cycle(holding(word(13, 0, 0, 0)))
	if s.Regs[0] != 0xabcd0123 {
		t.Errorf("P5: Get of register 0 into itself: %#x", s.Regs[0])
	}
}

// TestRegistersByTheirLowBits: each pair of names, also those above 7.
func TestRegistersByTheirLowBits(t *testing.T) {
	for a := range 16 {
		for b := range 16 {
			s := ready()
			want := s
			want.Regs[a%8], want.Place = want.Regs[b%8], 101
			s.Cycle(holding(word(api.Move, a, b, 0)))
			if s != want {
				t.Errorf("P5: Move %d, %d: %+v, want %+v", a, b, s, want)
			}
		}
	}
}

func TestPut(t *testing.T) {
	for _, c := range []struct {
		b uint32
		n int
	}{{0, 500}, {500, 0}, {1, 499}, {1<<32 - 1, 501}} {
		o := holding(word(api.Put, 2, 3, c.n))
		s := ready(0, 0, 77, c.b)
		want := s
		want.Place, want.Busy = 101, 1
		s.Cycle(o)
		if s != want || o.words[500] != 77 {
			t.Errorf("P5: Put to %d + %d: %+v, want %+v; the word is %d", c.b, c.n, s, want, o.words[500])
		}
	}
}

func TestJumps(t *testing.T) {
	const top = 1 << 31
	for _, c := range []struct {
		code, n int
		a       uint32
		place   uint32
	}{
		{15, 9, 0, 9}, {15, 65535, 1, 65535}, {15, 0, 1, 0}, {15, 100, 1, 100},
		{16, 9, 0, 9}, {16, 9, 1, 101}, {16, 9, top, 101}, {16, 65535, 0, 65535}, {16, 0, 0, 0},
		{17, 9, top, 9}, {17, 9, 1<<32 - 1, 9}, {17, 9, top - 1, 101}, {17, 9, 0, 101}, {17, 65535, top, 65535},
	} {
		s := ready(0, 0, c.a, 0)
		want := s
		want.Place = c.place
		s.Cycle(holding(word(c.code, 2, 3, c.n)))
		if s != want {
			t.Errorf("P5: code %d with %#x to %d: %+v, want %+v", c.code, c.a, c.n, s, want)
		}
	}
}

func TestCallHasItsNumberAndItsCycles(t *testing.T) {
	for _, n := range []int{0, 6, 65535} {
		o := holding(word(18, 5, 6, n))
		o.do = func(s *State) int {
			s.Regs[4] = 44
			return api.None
		}
		s := ready()
		want := s
		want.Regs[4], want.Place, want.Busy = 44, 101, 3
		s.Cycle(o)
		if s != want || len(o.calls) != 1 || o.calls[0] != uint32(n) {
			t.Errorf("P5: Call %d: %+v, want %+v; the calls are %d", n, s, want, o.calls)
		}
	}
}

func TestNotBusyBehindHaltOrYield(t *testing.T) {
	for _, do := range []func(*State) int{
		func(s *State) int { s.Status = api.Halted; return api.None },
		func(s *State) int { s.Yielded = true; return api.None },
	} {
		o := holding(word(18, 0, 0, 0))
		o.do = do
		s := ready()
		want := s
		want.Place = 101
		do(&want)
		s.Cycle(o)
		if s != want {
			t.Errorf("P5: %+v, want %+v", s, want)
		}
	}
}

func TestCauses(t *testing.T) {
	type example struct {
		why   string
		word  uint32
		cause int
	}
	list := []example{
		{"over 0", word(7, 2, 3, 0), 2},
		{"0 over 0", word(7, 3, 3, 0), 2},
		{"Get of no word", word(13, 2, 3, 501), 3},
		{"Put to no word", word(14, 2, 3, 501), 3},
		{"a call with a cause", word(18, 2, 3, 1), 5},
	}
	for code := range 256 {
		if code < 1 || code > 18 {
			list = append(list, example{"a code that is none", word(code, 2, 3, 500), 1})
		}
	}
	for _, c := range list {
		o := holding(c.word)
		o.do = func(s *State) int { return api.Foreign }
		before := maps.Clone(o.words)
		s := ready(0, 0, 5, 0)
		want := s
		want.Status, want.Cause = 2, c.cause
		s.Cycle(o)
		if s != want || !maps.Equal(o.words, before) {
			t.Errorf("P5: %s: %#x: %+v, want %+v", c.why, c.word, s, want)
		}
	}
}

// TestCallWithACauseLeavesNoTrace: not even of what it had begun.
func TestCallWithACauseLeavesNoTrace(t *testing.T) {
	o := holding(word(18, 0, 0, 0))
	o.do = func(s *State) int {
		*s = State{Yielded: true}
		return api.Unknown
	}
	s := ready()
	want := s
	want.Status, want.Cause = api.Parked, api.Unknown
	s.Cycle(o)
	if s != want {
		t.Errorf("P5: %+v, want %+v", s, want)
	}
}

func TestFetchFault(t *testing.T) {
	for _, place := range []uint32{99, 101, 0, 1 << 31, math.MaxUint32} {
		s := ready()
		s.Place = place
		want := s
		want.Status, want.Cause = api.Parked, api.Fault
		s.Cycle(holding(word(api.Load, 0, 0, 5)))
		if s != want {
			t.Errorf("P5: at %d: %+v, want %+v", place, s, want)
		}
	}
}

func TestThePlaceGoesRound(t *testing.T) {
	o := &store{words: map[uint32]uint32{math.MaxUint32: word(api.Load, 0, 0, 5), 0: word(api.Jump, 0, 0, 65535)}}
	s := State{Place: math.MaxUint32}
	s.Cycle(o)
	if want := (State{Regs: [8]uint32{5}, Place: 0}); s != want {
		t.Errorf("P5: behind the last address: %+v, want %+v", s, want)
	}
	s.Cycle(o)
	if s.Place != 65535 {
		t.Errorf("P5: the place is %d", s.Place)
	}
}

// TestBusyCountsDown: an instruction of so many cycles keeps the ward from the next one for so many less 1.
func TestBusyCountsDown(t *testing.T) {
	o := holding(word(api.Div, 0, 1, 0))
	o.words[101] = word(api.Load, 7, 0, 7)
	s := ready(45, 9)
	s.Cycle(o)
	for busy := 4; busy > 0; busy-- {
		want := ready(5, 9)
		want.Place, want.Busy = 101, busy
		if s != want {
			t.Errorf("P5: %+v, want %+v", s, want)
		}
		s.Cycle(o)
	}
	if s.Busy != 0 || s.Regs[7] != 1007 {
		t.Errorf("P5: with the last cycle: %+v", s)
	}
	s.Cycle(o)
	if s.Regs[7] != 7 || s.Place != 102 {
		t.Errorf("P5: behind it: %+v", s)
	}
}

func TestNothingMoreBehindTheEnd(t *testing.T) {
	for _, s := range []State{
		{Place: 100, Status: api.Halted},
		{Place: 100, Status: api.Parked, Cause: api.Illegal},
		{Place: 100, Yielded: true},
		{Place: 100, Busy: 3, Yielded: true},
		{Place: 100, Busy: 3, Status: api.Halted},
	} {
		want := s
		s.Cycle(holding(word(api.Load, 0, 0, 5)))
		if s != want {
			t.Errorf("P5: %+v became %+v", want, s)
		}
	}
}

package processor

import "wards/api"

// Outside is what a ward reaches beyond what the processor has: words, by their addresses, and the kernel.
// Where an address may not be used so, the answer is false, and nothing is changed.
type Outside interface {
	Fetch(address uint32) (uint32, bool)
	Get(address uint32) (uint32, bool)
	Put(address, word uint32) bool
	// Call does a call of the kernel on a state; with a cause it changes nothing.
	Call(s *State, number uint32) int
}

// Cycle does a cycle of a ward's turn (P5).
func (s *State) Cycle(out Outside) {
	switch {
	case !s.goesOn():
	case s.Busy > 0:
		s.Busy--
	default:
		s.step(out)
	}
}

// goesOn tells whether the ward does anything more in this turn.
func (s *State) goesOn() bool { return s.Status == api.Running && !s.Yielded }

// step does the instruction at the place, on a copy: so with a cause nothing of it is done.
func (s *State) step(out Outside) {
	w := work{State: *s, out: out}
	if cause := w.instructionAtPlace(); cause != api.None {
		s.Status = api.Parked
		s.Cause = cause
		return
	}
	*s = w.State
}

// work is an instruction that is being done.
type work struct {
	State // how the ward is behind it
	instruction
	out Outside
}

// instructionAtPlace does the instruction at the place, and tells its cause, if it has one.
func (w *work) instructionAtPlace() int {
	word, ok := w.out.Fetch(w.Place)
	if !ok {
		return api.Fault
	}
	w.instruction = decode(word)
	r, ok := find(w.code)
	if !ok {
		return api.Illegal
	}
	w.Place++
	if cause := r.do(w); cause != api.None {
		return cause
	}
	if w.goesOn() {
		w.Busy = r.cycles - 1
	}
	return api.None
}

package wards

import (
	"wards/api"
	"wards/processor"
)

// The registers that the calls use.
const (
	answered = iota // what a call answers
	named           // the number of a wire
	carried         // the word that a wire carries
)

// Call does a call of the kernel (processor.Outside), and tells its cause, if it has one.
func (t turn) Call(s *processor.State, number uint32) int {
	table := [...]func(turn, *processor.State) int{
		api.Halt:    turn.halt,
		api.Yield:   turn.yield,
		api.Who:     turn.who,
		api.Send:    turn.send,
		api.Receive: turn.receive,
		api.Look:    turn.look,
		api.Time:    turn.time,
	}
	if number >= uint32(len(table)) {
		return api.Unknown
	}
	return table[number](t, s)
}

// answer gives register 0 what a call answers. There is no cause in that.
func answer(s *processor.State, word uint32) int {
	s.Regs[answered] = word
	return api.None
}

func (t turn) halt(s *processor.State) int {
	s.Status = api.Halted
	return api.None
}

func (t turn) yield(s *processor.State) int {
	s.Yielded = true
	return api.None
}

func (t turn) who(s *processor.State) int { return answer(s, uint32(t.number)) }

func (t turn) time(s *processor.State) int { return answer(s, uint32(t.kernel.clock)) }

func (t turn) send(s *processor.State) int {
	w, ok := t.kernel.wire(s.Regs[named])
	if !ok || w.From != t.number {
		return api.Foreign
	}
	if w.full() {
		return answer(s, 1)
	}
	w.fill(s.Regs[carried])
	return answer(s, 0)
}

func (t turn) receive(s *processor.State) int {
	w, ok := t.kernel.wire(s.Regs[named])
	if !ok || w.To != t.number {
		return api.Foreign
	}
	if !w.full() {
		return answer(s, 1)
	}
	s.Regs[carried] = w.empty()
	return answer(s, 0)
}

func (t turn) look(s *processor.State) int {
	w, ok := t.kernel.wire(s.Regs[named])
	if !ok || w.From != t.number && w.To != t.number {
		return api.Foreign
	}
	if w.full() {
		return answer(s, 1)
	}
	return answer(s, 0)
}

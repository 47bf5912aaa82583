package wards

import "wards/plan"

// turn is what a ward reaches in its turn (processor.Outside): the words of its own regions, by their rights, and the kernel's calls.
type turn struct {
	kernel *Kernel
	number int
}

// Fetch gives the word of an instruction.
func (t turn) Fetch(address uint32) (uint32, bool) { return t.read(plan.Execute, address) }

// Get gives a word to read.
func (t turn) Get(address uint32) (uint32, bool) { return t.read(plan.Read, address) }

// Put writes a word.
func (t turn) Put(address, word uint32) bool {
	at, ok := t.find(plan.Write, address)
	if ok {
		t.kernel.memory[at] = word
	}
	return ok
}

// read gives the word at an address, if the ward has this right there.
func (t turn) read(right int, address uint32) (uint32, bool) {
	at, ok := t.find(right, address)
	if !ok {
		return 0, false
	}
	return t.kernel.memory[at], true
}

// find tells which word of the memory an address is, if the ward has this right there.
func (t turn) find(right int, address uint32) (int, bool) {
	return t.kernel.wards[t.number].findWith(right, address)
}

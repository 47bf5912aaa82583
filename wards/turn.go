package wards

import "wards/plan"

// turn is what a ward reaches in its turn (processor.Outside): the words of its own regions, by their rights, its own devices, and the kernel's calls.
type turn struct {
	kernel *Kernel
	number int
}

// Fetch gives the word of an instruction.
func (t turn) Fetch(address uint32) (uint32, bool) { return t.read(plan.Execute, address) }

// Get gives a word to read, or what a device has latched.
func (t turn) Get(address uint32) (uint32, bool) {
	if d, ok := t.device(inputAt, address); ok {
		return d.latched, true
	}
	return t.read(plan.Read, address)
}

// Put writes a word, or puts it to a device.
func (t turn) Put(address, word uint32) bool {
	if d, ok := t.device(outputAt, address); ok {
		d.put(word)
		return true
	}
	at, ok := t.find(plan.Write, address)
	if ok {
		t.kernel.memory[at] = word
	}
	return ok
}

// read gives the word at an address, if the ward has this right there.
func (t turn) read(right int, address uint32) (uint32, bool) {
	at, ok := t.find(right, address)
	if !ok {
		return 0, false
	}
	return t.kernel.memory[at], true
}

// device gives the device of the ward that has its input (or its output) at an address, if one has.
func (t turn) device(part, address uint32) (*device, bool) {
	number, ok := t.kernel.wards[t.number].findDevice(part, address)
	if !ok {
		return nil, false
	}
	return &t.kernel.devices[number], true
}

// find tells which word of the memory an address is, if the ward has this right there.
func (t turn) find(right int, address uint32) (int, bool) {
	return t.kernel.wards[t.number].findWith(right, address)
}

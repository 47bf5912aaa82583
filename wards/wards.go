// Package wards: a machine, and a kernel that keeps its wards apart: see DOC.md.
package wards

import (
	"wards/api"
	"wards/plan"
	"wards/timetable"
)

// Kernel is a machine that was booted.
type Kernel struct {
	memory  []uint32
	clock   int
	table   timetable.Table
	wards   []ward
	wires   []plan.Wire
	devices []device
}

// Check tells whether there is an image (P2).
func Check(image string) api.Errno {
	_, e := plan.Make(image)
	return e
}

// Boot makes a machine with an image (P3).
func Boot(image string) (*Kernel, api.Errno) {
	p, e := plan.Make(image)
	if e != api.OK {
		return nil, e
	}
	return start(p), api.OK
}

// Run does some cycles (P4).
func (x *Kernel) Run(n int) int {
	n = min(max(n, 0), api.MaxRun)
	for range n {
		x.cycle()
	}
	return n
}

// Clock tells how many cycles have been done (P4).
func (x *Kernel) Clock() int { return x.clock }

// Latch sets a device's input (P7).
func (x *Kernel) Latch(device int, word uint32) api.Errno {
	if !x.hasDevice(device) {
		return api.ErrDevice
	}
	x.devices[device].latched = word
	return api.OK
}

// Log tells what was put to a device (P7).
func (x *Kernel) Log(device int) (string, api.Errno) {
	if !x.hasDevice(device) {
		return "", api.ErrDevice
	}
	return string(x.devices[device].log), api.OK
}

// Word tells a word of the memory (P8).
func (x *Kernel) Word(at int) (uint32, api.Errno) {
	if at < 0 || at >= len(x.memory) {
		return 0, api.ErrAddress
	}
	return x.memory[at], api.OK
}

// View tells how a ward is (P8).
func (x *Kernel) View(ward int) (api.View, api.Errno) {
	if !x.hasWard(ward) {
		return api.View{}, api.ErrWard
	}
	r := x.report(ward)
	return r.View(), api.OK
}

// Peek tells a word of a ward's regions (P8).
func (x *Kernel) Peek(ward int, address uint32) (uint32, api.Errno) {
	if !x.hasWard(ward) {
		return 0, api.ErrWard
	}
	at, ok := x.wards[ward].find(address)
	if !ok {
		return 0, api.ErrAddress
	}
	return x.memory[at], api.OK
}

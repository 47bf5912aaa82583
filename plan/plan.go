// Package plan: what an image says, read out of its text and checked.
package plan

import "wards/api"

// The rights of a region; an image gives their sum.
const (
	Read = 1 << iota
	Write
	Execute
)

// Region is a piece of a ward's addresses, and of the memory.
type Region struct {
	First  int // its first address
	Words  int
	Base   int // where its words lie in the memory
	Rights int
}

// Find tells which word of the memory an address is, if it stands in the region.
func (r Region) Find(address uint32) (int, bool) {
	first := uint32(r.First)
	if address < first || address-first >= uint32(r.Words) {
		return 0, false
	}
	return r.Base + int(address-first), true
}

// Ward is a ward's part of an image.
type Ward struct {
	Quantum int
	Begin   uint32 // the address of its first instruction
	Regions []Region
	Program []uint32
}

// Wire names the wards at a wire's two ends.
type Wire struct {
	From int
	To   int
}

// Plan is what an image says.
type Plan struct {
	Gap    int
	Memory int // how many words the memory has
	Wards  []Ward
	Wires  []Wire
	Owners []int // for each device its ward
}

// Make reads an image and checks it (P2).
func Make(image string) (Plan, api.Errno) {
	p, ok := read(image)
	if !ok {
		return Plan{}, api.ErrImage
	}
	if !p.regionsFit() || !p.regionsApart() {
		return Plan{}, api.ErrRegion
	}
	if !p.wiresFit() || !p.devicesFit() {
		return Plan{}, api.ErrWiring
	}
	return p, api.OK
}

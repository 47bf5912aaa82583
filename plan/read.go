package plan

import "wards/api"

// maxPair is the greatest number that two bytes can tell.
const maxPair = 1<<16 - 1

// reader goes through an image. Once it is bad it stays so, and gives noughts: so only the end has to ask.
type reader struct {
	rest string
	bad  bool
}

// number reads so many bytes, the high one first.
func (r *reader) number(bytes int) uint32 {
	if r.bad || len(r.rest) < bytes {
		r.bad = true
		return 0
	}
	var v uint32
	for i := range bytes {
		v = v<<8 | uint32(r.rest[i])
	}
	r.rest = r.rest[bytes:]
	return v
}

// single reads a number of one byte.
func (r *reader) single() int { return int(r.number(1)) }

// pair reads a number of two bytes.
func (r *reader) pair() int { return int(r.number(2)) }

// within holds a number against its bounds.
func (r *reader) within(low, high, v int) int {
	if v < low || v > high {
		r.bad = true
	}
	if r.bad {
		return 0
	}
	return v
}

// read takes an image to pieces; it answers false if the text is no image.
func read(image string) (Plan, bool) {
	r := reader{rest: image}
	var p Plan
	wards := r.within(1, api.MaxWards, r.single())
	p.Gap = r.within(1, api.MaxGap, r.single())
	p.Memory = r.within(api.MinMemory, api.MaxMemory, r.pair())
	wires := r.within(0, api.MaxWires, r.single())
	devices := r.within(0, api.MaxDevices, r.single())
	for range wards {
		p.Wards = append(p.Wards, r.ward())
	}
	for range wires {
		p.Wires = append(p.Wires, r.wire())
	}
	for range devices {
		p.Owners = append(p.Owners, r.single())
	}
	return p, !r.bad && r.rest == ""
}

func (r *reader) ward() Ward {
	var w Ward
	w.Quantum = r.within(1, api.MaxQuantum, r.single())
	regions := r.within(1, api.MaxRegions, r.single())
	w.Begin = r.number(2)
	for range regions {
		w.Regions = append(w.Regions, r.region())
	}
	if r.bad {
		return w // there may be no first region to hold the program against
	}
	words := r.within(0, w.Regions[0].Words, r.pair())
	for range words {
		w.Program = append(w.Program, r.number(4))
	}
	return w
}

func (r *reader) region() Region {
	var g Region
	g.First = r.pair()
	g.Words = r.within(1, maxPair, r.pair())
	g.Base = r.pair()
	g.Rights = r.within(1, Read|Write|Execute, r.single())
	return g
}

func (r *reader) wire() Wire {
	var w Wire
	w.From = r.single()
	w.To = r.single()
	return w
}

package plan

import (
	"wards/api"
	"wards/layout"
)

// owned is a region with the number of its ward.
type owned struct {
	Region
	ward int
}

// regions lists the regions of all wards.
func (p *Plan) regions() []owned {
	var l []owned
	for i, w := range p.Wards {
		for _, r := range w.Regions {
			l = append(l, owned{r, i})
		}
	}
	return l
}

// regionsFit tells whether each region, by itself, keeps to the addresses and to the memory that wards may have.
func (p *Plan) regionsFit() bool {
	kernel := layout.Kernel(len(p.Wards), len(p.Wires))
	for _, r := range p.regions() {
		if r.First+r.Words > api.Devices || r.Base < kernel || r.Base+r.Words > p.Memory {
			return false
		}
	}
	return true
}

// regionsApart tells whether no two regions have anything in common.
func (p *Plan) regionsApart() bool {
	l := p.regions()
	for i, a := range l {
		for _, b := range l[:i] {
			if a.sharesAddress(b) || a.sharesWord(b) {
				return false
			}
		}
	}
	return true
}

// sharesAddress: two wards may use the same addresses, since each has its own.
func (a owned) sharesAddress(b owned) bool {
	return a.ward == b.ward && overlap(a.First, a.Words, b.First, b.Words)
}

func (a owned) sharesWord(b owned) bool {
	return overlap(a.Base, a.Words, b.Base, b.Words)
}

// overlap tells whether two runs of numbers, each with its first one and how many, have one in common.
func overlap(a, countA, b, countB int) bool {
	return a < b+countB && b < a+countA
}

func (p *Plan) wiresFit() bool {
	for _, w := range p.Wires {
		if !p.has(w.From) || !p.has(w.To) || w.From == w.To {
			return false
		}
	}
	return true
}

func (p *Plan) devicesFit() bool {
	for _, ward := range p.Owners {
		if !p.has(ward) {
			return false
		}
	}
	return true
}

// has tells whether there is a ward of this number.
func (p *Plan) has(ward int) bool { return ward >= 0 && ward < len(p.Wards) }

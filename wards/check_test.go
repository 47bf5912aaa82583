package wards

import (
	"testing"

	"wards/api"
	"wards/plan"
)

// example is an image, or the text of none, and what Check must answer of it.
type example struct {
	why  string
	text string
	want api.Errno
}

// told makes an example of a plan.
func told(why string, p plan.Plan, want api.Errno) example { return example{why, text(p), want} }

// mustAnswer holds Check, and Boot with it, against the examples.
func mustAnswer(t *testing.T, l []example) {
	t.Helper()
	for _, c := range l {
		if e := Check(c.text); e != c.want {
			t.Errorf("P2: %s: Check: %d, want %d", c.why, e, c.want)
		}
		if x, e := Boot(c.text); e != c.want || (x != nil) != (c.want == api.OK) {
			t.Errorf("P3: %s: Boot: %v, %d, want %d", c.why, x, e, c.want)
		}
	}
}

func TestCheckTheDocumentsImage(t *testing.T) {
	mustAnswer(t, []example{
		{"the image", document, api.OK},
		{"a byte more", document + "\x00", api.ErrImage},
		{"a byte less", document[:len(document)-1], api.ErrImage},
		{"from 63 on", document[:14] + "\x00\x3f" + document[16:], api.OK},
		{"from 32 on", document[:14] + "\x00\x20" + document[16:], api.OK},
		{"from 31 on", document[:14] + "\x00\x1f" + document[16:], api.ErrRegion},
	})
}

// TestCheckBounds: each number that has bounds, at them and one beyond; and as far out as its bytes go.
func TestCheckBounds(t *testing.T) {
	for _, c := range []struct {
		what string
		plan func(v int) plan.Plan
		good []int
		bad  []int
	}{
		{"wards", ordinary, []int{1, 2, 3, 4}, []int{0, 5, 10}},
		{"the gap", func(v int) plan.Plan {
			p := ordinary(1)
			p.Gap = v
			return p
		}, []int{1, 16}, []int{0, 17, 128, 255}},
		{"the memory", func(v int) plan.Plan {
			p := with(plan.Region{First: 0, Words: 1, Base: 32, Rights: 7})
			p.Memory = v
			return p
		}, []int{64, 255, 256, 1024}, []int{0, 1, 63, 1025, 32768, 65535}},
		{"wires", func(v int) plan.Plan {
			p := ordinary(2)
			for range v {
				p.Wires = append(p.Wires, plan.Wire{From: 0, To: 1})
			}
			return p
		}, []int{0, 1, 8}, []int{9, 255}},
		{"devices", func(v int) plan.Plan {
			p := ordinary(1)
			p.Owners = make([]int, v)
			return p
		}, []int{0, 1, 8}, []int{9, 255}},
		{"a quantum", func(v int) plan.Plan {
			p := ordinary(2)
			p.Wards[1].Quantum = v
			return p
		}, []int{1, 64}, []int{0, 65, 255}},
		{"where a ward begins", func(v int) plan.Plan {
			p := ordinary(2)
			p.Wards[1].Begin = uint32(v)
			return p
		}, []int{0, 8, 32768, 65535}, nil},
		{"regions", func(v int) plan.Plan {
			p := with()
			for i := range v {
				p.Wards[0].Regions = append(p.Wards[0].Regions, plan.Region{First: i, Words: 1, Base: 100 + i, Rights: 7})
			}
			return p
		}, []int{1, 2, 3}, []int{0, 4, 50}},
		{"a region's words", func(v int) plan.Plan {
			return with(plan.Region{First: 0, Words: 1, Base: 32, Rights: 7}, plan.Region{First: 1, Words: v, Base: 33, Rights: 7})
		}, []int{1, 167}, []int{0}},
		{"a region's rights", func(v int) plan.Plan {
			return with(plan.Region{First: 0, Words: 1, Base: 32, Rights: 7}, plan.Region{First: 1, Words: 1, Base: 33, Rights: v})
		}, []int{1, 2, 3, 4, 5, 6, 7}, []int{0, 8, 255}},
		{"a program's words", func(v int) plan.Plan {
			// The second region is longer: it is the first one that counts.
			p := with(plan.Region{First: 0, Words: 5, Base: 32, Rights: 7}, plan.Region{First: 100, Words: 50, Base: 50, Rights: 7})
			p.Wards[0].Program = make([]uint32, v)
			return p
		}, []int{0, 1, 4, 5}, []int{6, 50, 65535}},
	} {
		for _, v := range c.good {
			mustAnswer(t, []example{told(c.what+": "+decimal(v), c.plan(v), api.OK)})
		}
		for _, v := range c.bad {
			mustAnswer(t, []example{told(c.what+": "+decimal(v), c.plan(v), api.ErrImage)})
		}
	}
}

// TestCheckWhereRegionsGo: the addresses end at Devices, the memory's words begin at K and end with the memory.
func TestCheckWhereRegionsGo(t *testing.T) {
	atK := func(wards, wires, base int) plan.Plan {
		p := ordinary(wards)
		for range wires {
			p.Wires = append(p.Wires, plan.Wire{From: 0, To: 1})
		}
		p.Wards[wards-1].Regions[0] = plan.Region{First: 0, Words: 1, Base: base, Rights: 7}
		return p
	}
	small := atK(4, 8, 96)
	small.Memory = 96
	whole := with(plan.Region{First: 0, Words: 992, Base: 32, Rights: 7})
	whole.Memory = 1024
	other := ordinary(2)
	other.Wards[1].Regions = append(other.Wards[1].Regions, plan.Region{First: 8, Words: 1, Base: 47, Rights: 1})
	mustAnswer(t, []example{
		told("ends at Devices", with(plan.Region{First: 32760, Words: 8, Base: 100, Rights: 7}), api.OK),
		told("one beyond Devices", with(plan.Region{First: 32761, Words: 8, Base: 100, Rights: 7}), api.ErrRegion),
		told("the last address", with(plan.Region{First: 32767, Words: 1, Base: 100, Rights: 7}), api.OK),
		told("begins at Devices", with(plan.Region{First: 32768, Words: 1, Base: 100, Rights: 7}), api.ErrRegion),
		told("beyond 16 bits, by one word", with(plan.Region{First: 65535, Words: 1, Base: 100, Rights: 7}), api.ErrRegion),
		told("beyond 16 bits, by many", with(plan.Region{First: 32768, Words: 32769, Base: 100, Rights: 7}), api.ErrRegion),
		told("a second region beyond Devices", with(plan.Region{First: 0, Words: 8, Base: 100, Rights: 7}, plan.Region{First: 32767, Words: 2, Base: 110, Rights: 7}), api.ErrRegion),
		told("begins at K", with(plan.Region{First: 0, Words: 8, Base: 32, Rights: 7}), api.OK),
		told("begins one below K", with(plan.Region{First: 0, Words: 8, Base: 31, Rights: 7}), api.ErrRegion),
		told("one word, one below K", with(plan.Region{First: 0, Words: 1, Base: 31, Rights: 7}), api.ErrRegion),
		told("begins at the word 0", with(plan.Region{First: 0, Words: 8, Base: 0, Rights: 7}), api.ErrRegion),
		told("begins at K, two wards and a wire", atK(2, 1, 50), api.OK),
		told("in the cell, two wards and a wire", atK(2, 1, 49), api.ErrRegion),
		told("begins at K, four wards and eight wires", atK(4, 8, 96), api.OK),
		told("in the cells, four wards and eight wires", atK(4, 8, 95), api.ErrRegion),
		told("the second ward's second region below K", other, api.ErrRegion),
		told("K is the whole memory", small, api.ErrRegion),
		told("all words behind K", whole, api.OK),
		told("ends at the memory's end", with(plan.Region{First: 0, Words: 8, Base: 192, Rights: 7}), api.OK),
		told("one beyond the memory's end", with(plan.Region{First: 0, Words: 8, Base: 193, Rights: 7}), api.ErrRegion),
		told("begins at the memory's end", with(plan.Region{First: 0, Words: 1, Base: 200, Rights: 7}), api.ErrRegion),
		told("beyond 16 bits of memory", with(plan.Region{First: 0, Words: 101, Base: 65535, Rights: 7}), api.ErrRegion),
		told("a third region beyond the memory", with(plan.Region{First: 0, Words: 1, Base: 40, Rights: 7}, plan.Region{First: 1, Words: 1, Base: 41, Rights: 7}, plan.Region{First: 2, Words: 2, Base: 199, Rights: 7}), api.ErrRegion),
	})
}

// TestCheckRegionsApart: regions may touch; they may not share one address of one ward, nor one word of the memory.
func TestCheckRegionsApart(t *testing.T) {
	pair := func(first, words, base int) plan.Plan {
		return with(plan.Region{First: 50, Words: 8, Base: 100, Rights: 7}, plan.Region{First: first, Words: words, Base: base, Rights: 7})
	}
	third := func(first, base int) plan.Plan {
		p := pair(58, 8, 108)
		p.Wards[0].Regions = append(p.Wards[0].Regions, plan.Region{First: first, Words: 4, Base: base, Rights: 7})
		return p
	}
	two := func(first, words, base int) plan.Plan {
		p := ordinary(2)
		p.Wards[1].Regions = []plan.Region{{First: first, Words: words, Base: base, Rights: 7}}
		return p
	}
	mustAnswer(t, []example{
		told("addresses that touch, behind", pair(58, 8, 150), api.OK),
		told("addresses that touch, ahead", pair(42, 8, 150), api.OK),
		told("one address shared, behind", pair(57, 8, 150), api.ErrRegion),
		told("one address shared, ahead", pair(43, 8, 150), api.ErrRegion),
		told("one address within", pair(53, 1, 150), api.ErrRegion),
		told("addresses around", pair(40, 30, 150), api.ErrRegion),
		told("the same addresses", pair(50, 8, 150), api.ErrRegion),
		told("words that touch, behind", pair(0, 8, 108), api.OK),
		told("words that touch, ahead", pair(0, 8, 92), api.OK),
		told("one word shared, behind", pair(0, 8, 107), api.ErrRegion),
		told("one word shared, ahead", pair(0, 8, 93), api.ErrRegion),
		told("one word within", pair(0, 1, 104), api.ErrRegion),
		told("words around", pair(0, 30, 90), api.ErrRegion),
		told("the same words", pair(0, 8, 100), api.ErrRegion),
		told("three apart", third(66, 116), api.OK),
		told("the third shares an address with the first", third(47, 116), api.ErrRegion),
		told("the third shares an address with the second", third(65, 116), api.ErrRegion),
		told("the third shares a word with the first", third(66, 97), api.ErrRegion),
		told("the third shares a word with the second", third(66, 115), api.ErrRegion),
		told("two wards, the same addresses", two(0, 8, 150), api.OK),
		told("two wards, words that touch", two(0, 8, 108), api.OK),
		told("two wards, one word shared, behind", two(0, 8, 107), api.ErrRegion),
		told("two wards, one word shared, ahead", two(0, 8, 93), api.ErrRegion),
		told("two wards, one word shared, other addresses", two(500, 1, 100), api.ErrRegion),
	})
}

func TestCheckWiring(t *testing.T) {
	mustAnswer(t, []example{
		told("wires both ways", wired(plan.Wire{From: 0, To: 1}, plan.Wire{From: 1, To: 0}), api.OK),
		told("from none", wired(plan.Wire{From: 2, To: 1}), api.ErrWiring),
		told("to none", wired(plan.Wire{From: 0, To: 2}), api.ErrWiring),
		told("from far beyond", wired(plan.Wire{From: 255, To: 0}), api.ErrWiring),
		told("to far beyond", wired(plan.Wire{From: 0, To: 255}), api.ErrWiring),
		told("from ward 0 to itself", wired(plan.Wire{From: 0, To: 0}), api.ErrWiring),
		told("from ward 1 to itself", wired(plan.Wire{From: 1, To: 1}), api.ErrWiring),
		told("the last wire", wired(plan.Wire{From: 0, To: 1}, plan.Wire{From: 1, To: 0}, plan.Wire{From: 1, To: 1}), api.ErrWiring),
		told("devices", owned(0, 1, 1, 0), api.OK),
		told("none's device", owned(2), api.ErrWiring),
		told("none's device behind others", owned(0, 1, 2), api.ErrWiring),
		told("a device far beyond", owned(255, 0), api.ErrWiring),
	})
}

// TestCheckWhichErrorComesFirst: where several apply, ErrImage is ahead of ErrRegion, and that of ErrWiring, wherever in the text they stand.
func TestCheckWhichErrorComesFirst(t *testing.T) {
	region := with(plan.Region{First: 32768, Words: 8, Base: 31, Rights: 7})
	both := region
	both.Wires = []plan.Wire{{From: 0, To: 0}}
	both.Owners = []int{9}
	wiring := wired(plan.Wire{From: 7, To: 7})
	late := ordinary(2)
	late.Wards[0].Regions[0].Base = 0
	late.Wards[1].Regions[0].Rights = 8
	long := with(plan.Region{First: 32768, Words: 1, Base: 0, Rights: 7})
	long.Wards[0].Program = []uint32{1, 2}
	gap := both
	gap.Gap = 0
	mustAnswer(t, []example{
		told("region and wiring", both, api.ErrRegion),
		{"region and wiring, a byte more", text(both) + "\x00", api.ErrImage},
		{"region and wiring, a byte less", text(both)[:len(text(both))-1], api.ErrImage},
		told("region and wiring, no gap", gap, api.ErrImage),
		{"region, a byte more", text(region) + "\x00", api.ErrImage},
		{"wiring, a byte more", text(wiring) + "\x00", api.ErrImage},
		{"wiring, a byte less", text(wiring)[:len(text(wiring))-1], api.ErrImage},
		told("a region ahead of wrong rights", late, api.ErrImage),
		told("a region, and a long program", long, api.ErrImage),
	})
}

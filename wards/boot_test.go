package wards

import (
	"slices"
	"testing"

	"wards/api"
	"wards/plan"
)

func TestBootTheDocumentsImage(t *testing.T) {
	x := boot(t, document)
	want := make([]uint32, 128)
	copy(want[64:], []uint32{0x01000005, 0x01100007, 0x04010000})
	if got := words(x); !slices.Equal(got, want) {
		t.Errorf("P3: the memory is %v, want %v", got, want)
	}
	if got := views(x); !slices.Equal(got, []api.View{{}}) {
		t.Errorf("P3: the views are %+v", got)
	}
	if x.Clock() != 0 {
		t.Errorf("P3: the clock is %d", x.Clock())
	}
}

// TestBootWritesWardsWordsAlone: places into the save areas, programs into the first regions, noughts everywhere else.
func TestBootWritesWardsWordsAlone(t *testing.T) {
	x := boot(t, text(several()))
	want := make([]uint32, 160)
	want[24] = 300
	want[40] = 0xffff
	want[56] = 2
	copy(want[68:], []uint32{0x12345678, 9})
	copy(want[150:], []uint32{7, 8, 1<<32 - 1})
	if got := words(x); !slices.Equal(got, want) {
		t.Errorf("P3: the memory is %v, want %v", got, want)
	}
	if got, want := views(x), []api.View{{Place: 300}, {Place: 0xffff}, {Place: 2}}; !slices.Equal(got, want) {
		t.Errorf("P3: the views are %+v, want %+v", got, want)
	}
	if x.Clock() != 0 {
		t.Errorf("P3: the clock is %d", x.Clock())
	}
}

func TestBootFillsARegionWithItsProgram(t *testing.T) {
	p := with(plan.Region{First: 9, Words: 3, Base: 197, Rights: 1}, plan.Region{First: 12, Words: 3, Base: 194, Rights: 7})
	p.Wards[0].Program = []uint32{1, 1 << 31, 3}
	want := make([]uint32, 200)
	copy(want[197:], p.Wards[0].Program)
	if got := words(boot(t, text(p))); !slices.Equal(got, want) {
		t.Errorf("P3: the memory is %v, want %v", got, want)
	}
}

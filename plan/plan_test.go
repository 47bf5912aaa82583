package plan

import (
	"reflect"
	"testing"

	"wards/api"
)

func TestMakeTellsWhatTheImageSays(t *testing.T) {
	image := "\x02\x03\x00\xc8\x01\x03" +
		"\x05\x02\x01\x2c" + "\x01\x2c\x00\x04\x00\x96\x05" + "\x00\x00\x00\x0a\x00\x64\x03" + "\x00\x02\x00\x00\x00\x07\xfe\xdc\xba\x98" +
		"\x40\x01\xff\xff" + "\x7f\xff\x00\x01\x00\x78\x01" + "\x00\x00" +
		"\x01\x00" + "\x01\x01\x00"
	want := Plan{
		Gap:    3,
		Memory: 200,
		Wards: []Ward{
			{Quantum: 5, Begin: 300, Regions: []Region{{300, 4, 150, 5}, {0, 10, 100, 3}}, Program: []uint32{7, 0xfedcba98}},
			{Quantum: 64, Begin: 0xffff, Regions: []Region{{32767, 1, 120, 1}}},
		},
		Wires:  []Wire{{From: 1, To: 0}},
		Owners: []int{1, 1, 0},
	}
	if p, e := Make(image); e != api.OK || !reflect.DeepEqual(p, want) {
		t.Errorf("Words: Make: %+v, %d, want %+v", p, e, want)
	}
}

func TestMakeTellsNothingBesideAnError(t *testing.T) {
	for image, want := range map[string]api.Errno{
		"": api.ErrImage,
		"\x01\x01\x00\x40\x00\x00\x01\x01\x00\x00\x00\x00\x00\x01\x00\x1f\x07\x00\x00":     api.ErrRegion,
		"\x01\x01\x00\x40\x00\x01\x01\x01\x00\x00\x00\x00\x00\x01\x00\x20\x07\x00\x00\x01": api.ErrWiring,
	} {
		if p, e := Make(image); e != want || !reflect.DeepEqual(p, Plan{}) {
			t.Errorf("P1: Make(%x): %+v, %d, want nothing and %d", image, p, e, want)
		}
	}
}

func TestFind(t *testing.T) {
	r := Region{First: 300, Words: 4, Base: 150, Rights: Read}
	for _, c := range []struct {
		address uint32
		at      int
		ok      bool
	}{
		{300, 150, true}, {303, 153, true}, {299, 0, false}, {304, 0, false}, {0, 0, false}, {150, 0, false},
		{api.Devices, 0, false}, {1 << 31, 0, false}, {1<<32 - 1, 0, false}, {1<<16 + 300, 0, false},
	} {
		if at, ok := r.Find(c.address); at != c.at || ok != c.ok {
			t.Errorf("Words: the address %d: %d, %t, want %d, %t", c.address, at, ok, c.at, c.ok)
		}
	}
}

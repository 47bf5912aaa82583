package layout

import "testing"

func TestWhereTheKernelsWordsLie(t *testing.T) {
	for _, c := range []struct {
		what      string
		got, want int
	}{
		{"the turn", Turn, 0},
		{"the clock", Clock, 1},
		{"ward 0's area", Area(0), 16},
		{"ward 3's area", Area(3), 64},
		{"wire 0's cell of one ward", Cell(1, 0), 32},
		{"wire 7's cell of four wards", Cell(4, 7), 94},
		{"K of one ward", Kernel(1, 0), 32},
		{"K of two wards and a wire", Kernel(2, 1), 50},
		{"K of four wards and eight wires", Kernel(4, 8), 96},
	} {
		if c.got != c.want {
			t.Errorf("Words: %s: %d, want %d", c.what, c.got, c.want)
		}
	}
}

package processor

// instruction is an instruction's word, taken to pieces.
type instruction struct {
	code int
	a    int // the number of a register, as b is
	b    int
	n    uint32
}

func decode(word uint32) instruction {
	return instruction{
		code: int(word >> 24),
		a:    register(word >> 20),
		b:    register(word >> 16),
		n:    word & 0xffff,
	}
}

// register gives the register that the lowest bits name: of the four that an instruction has for it, the highest does not count.
func register(bits uint32) int { return int(bits % Registers) }

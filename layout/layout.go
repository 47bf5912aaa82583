// Package layout: where the kernel's words lie in the memory.
package layout

// The kernel's single words.
const (
	Turn  = iota // the number of the ward whose turn it is
	Clock        // the clock, modulo 2^32
)

// AreaWords is how many words a ward's save area has.
const AreaWords = 16

// CellWords is how many words a wire's cell has.
const CellWords = 2

// headWords is how many words lie ahead of the save areas.
const headWords = 16

// Area tells where a ward's save area begins.
func Area(ward int) int { return headWords + AreaWords*ward }

// Cell tells where a wire's cell begins: the cells follow the save areas.
func Cell(wards, wire int) int { return Area(wards) + CellWords*wire }

// Kernel tells how many words are the kernel's (the document's K): they end where one more cell would begin.
func Kernel(wards, wires int) int { return Cell(wards, wires) }

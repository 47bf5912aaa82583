package processor

import "wards/api"

// wordBits is how many bits a word has.
const wordBits = 32

// first gives the word of the register that a names.
func (w *work) first() uint32 { return w.Regs[w.a] }

// second gives the word of the register that b names.
func (w *work) second() uint32 { return w.Regs[w.b] }

// address gives the address that Get and Put use.
func (w *work) address() uint32 { return w.second() + w.n }

// become gives the register that a names a word. There is no cause in that.
func (w *work) become(word uint32) int {
	w.Regs[w.a] = word
	return api.None
}

// jumpIf sets the place to n, if a condition holds. There is no cause in that.
func (w *work) jumpIf(holds bool) int {
	if holds {
		w.Place = w.n
	}
	return api.None
}

func (w *work) load() int { return w.become(w.n) }

func (w *work) high() int { return w.become(w.first()<<16 + w.n) }

func (w *work) move() int { return w.become(w.second()) }

func (w *work) add() int { return w.become(w.first() + w.second()) }

func (w *work) sub() int { return w.become(w.first() - w.second()) }

func (w *work) mul() int { return w.become(w.first() * w.second()) }

func (w *work) div() int {
	if w.second() == 0 {
		return api.Division
	}
	return w.become(w.first() / w.second())
}

func (w *work) and() int { return w.become(w.first() & w.second()) }

func (w *work) or() int { return w.become(w.first() | w.second()) }

func (w *work) xor() int { return w.become(w.first() ^ w.second()) }

func (w *work) left() int { return w.become(w.first() << (w.second() % wordBits)) }

func (w *work) right() int { return w.become(w.first() >> (w.second() % wordBits)) }

func (w *work) get() int {
	word, ok := w.out.Get(w.address())
	if !ok {
		return api.Fault
	}
	return w.become(word)
}

func (w *work) put() int {
	if !w.out.Put(w.address(), w.first()) {
		return api.Fault
	}
	return api.None
}

func (w *work) jump() int { return w.jumpIf(true) }

func (w *work) zero() int { return w.jumpIf(w.first() == 0) }

func (w *work) minus() int { return w.jumpIf(w.first()>>(wordBits-1) == 1) }

func (w *work) call() int { return w.out.Call(&w.State, w.n) }

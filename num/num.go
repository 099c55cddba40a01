// Package num is layer 1: see shared/doc/01-num.md.
package num

import "math/bits"

// last is the greatest number that one word holds.
const last uint64 = 1<<64 - 1

// wide is a number below 2^128, its high word first, so that no sum and no product of two words is cut off before it is judged.
type wide [2]uint64

// pair is a number, and whether it is one that a word holds.
type pair struct {
	n    uint64
	fits bool
}

// told leaves out the number where it does not fit: what was cut off is nobody's to see.
func (p pair) told() (uint64, bool) {
	if !p.fits {
		return 0, false
	}
	return p.n, true
}

// or takes how a pair is told, not the pair, so that it rests on the same judgement as the checked calls.
func or(tell func() (uint64, bool), end uint64) uint64 {
	if n, ok := tell(); ok {
		return n
	}
	return end
}

func narrow(w wide) pair {
	low := w[1]
	return pair{low, w == wide{0, low}}
}

func sum(a, b uint64) pair {
	low, carry := bits.Add64(a, b, 0)
	return narrow(wide{carry, low})
}

func difference(a, b uint64) pair {
	return pair{a - b, a >= b}
}

func product(a, b uint64) wide {
	high, low := bits.Mul64(a, b)
	return wide{high, low}
}

func noLess(a, b wide) bool {
	return a == b || a[0] > b[0] || a[0] == b[0] && a[1] > b[1]
}

// Add, Sub and Mul are checked.
func Add(a, b uint64) (uint64, bool) {
	tell := sum(a, b).told
	return tell()
}

func Sub(a, b uint64) (uint64, bool) {
	tell := difference(a, b).told
	return tell()
}

func Mul(a, b uint64) (uint64, bool) {
	tell := narrow(product(a, b)).told
	return tell()
}

// Up and Down stop at the end.
func Up(a, b uint64) uint64 { return or(sum(a, b).told, last) }

func Down(a, b uint64) uint64 { return or(difference(a, b).told, 0) }

// Most tells whether a part is two thirds of a whole, at least, Some whether it is one third.
func Most(part, whole uint64) bool { return noLess(product(3, part), product(2, whole)) }

func Some(part, whole uint64) bool { return noLess(product(3, part), wide{0, whole}) }

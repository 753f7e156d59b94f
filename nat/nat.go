// Package nat is layer 1: naturals of any size, of which exact fractions are made.
package nat

import "cmp"

// Nat is a natural: its limbs, the least significant first. Limbs of 0 at its end mean nothing.
type Nat []uint32

// limbBits is a limb's width: what lies above it in a number of twice that width is carried.
const limbBits = 32

// Of answers n.
func Of(n uint64) Nat {
	return Trim(Nat{uint32(n), uint32(n >> limbBits)})
}

// Trim answers a without the limbs of 0 at its end.
func Trim(a Nat) Nat {
	return append(Nat{}, significant(a)...)
}

// significant is a view of a, not a copy: it is for looking at an argument, never for an answer.
func significant(a Nat) Nat {
	n := len(a)
	for n > 0 && a[n-1] == 0 {
		n--
	}
	return a[:n]
}

// Cmp answers -1, 0 or 1, as a is less than b, the same, or more.
func Cmp(a, b Nat) int {
	a, b = significant(a), significant(b)
	if len(a) != len(b) {
		return cmp.Compare(len(a), len(b))
	}
	for i := len(a) - 1; i >= 0; i-- {
		if a[i] != b[i] {
			return cmp.Compare(a[i], b[i])
		}
	}
	return 0
}

// Add answers the sum.
func Add(a, b Nat) Nat {
	a, b = significant(a), significant(b)
	if len(a) < len(b) {
		a, b = b, a
	}
	out := make(Nat, 0, len(a)+1)
	var carry uint64
	for i, limb := range a {
		sum := uint64(limb) + carry
		if i < len(b) {
			sum += uint64(b[i])
		}
		out = append(out, uint32(sum))
		carry = sum >> limbBits
	}
	return Trim(append(out, uint32(carry)))
}

// Sub answers the difference; 0, if b is more than a.
func Sub(a, b Nat) Nat {
	if Cmp(a, b) <= 0 {
		return Nat{}
	}
	a, b = significant(a), significant(b)
	out := make(Nat, 0, len(a))
	var borrow uint64
	for i, limb := range a {
		// A difference below 0 wraps round, and so has its topmost bit.
		diff := uint64(limb) - borrow
		if i < len(b) {
			diff -= uint64(b[i])
		}
		out = append(out, uint32(diff))
		borrow = diff >> (2*limbBits - 1)
	}
	return Trim(out)
}

// Mul answers the product.
func Mul(a, b Nat) Nat {
	a, b = significant(a), significant(b)
	out := make(Nat, len(a)+len(b))
	for i, limb := range a {
		out[i+len(b)] = addMultiple(out[i:i+len(b)], b, limb)
	}
	return Trim(out)
}

// addMultiple adds b times factor to out, which is as long as b, and answers what is carried beyond it.
func addMultiple(out, b Nat, factor uint32) uint32 {
	var carry uint64
	for i, limb := range b {
		// No overflow: (2^32 - 1)^2 and twice 2^32 - 1 are 2^64 - 1.
		sum := uint64(limb)*uint64(factor) + uint64(out[i]) + carry
		out[i] = uint32(sum)
		carry = sum >> limbBits
	}
	return uint32(carry)
}

// Small answers a and true, if it is at most 2^64 - 1; else 0 and false.
func Small(a Nat) (uint64, bool) {
	a = significant(a)
	if len(a) > 2 {
		return 0, false
	}
	var n uint64
	for i, limb := range a {
		n |= uint64(limb) << (limbBits * i)
	}
	return n, true
}

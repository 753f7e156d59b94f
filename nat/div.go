package nat

import "math/bits"

// Div answers the quotient, rounded down, and what is left; 0 and 0, if b is 0.
func Div(a, b Nat) (Nat, Nat) {
	a, b = significant(a), significant(b)
	if len(b) == 0 {
		return Nat{}, Nat{}
	}
	if Cmp(a, b) < 0 {
		return Nat{}, Trim(a)
	}
	if len(b) == 1 {
		quotient := Trim(a)
		left := divideByLimb(quotient, b[0])
		return Trim(quotient), Of(uint64(left))
	}
	return divideLong(a, b)
}

// divideByLimb leaves the quotient in a, and answers what is left; by isn't 0.
func divideByLimb(a Nat, by uint32) uint32 {
	var left uint64
	for i := len(a) - 1; i >= 0; i-- {
		part := left<<limbBits | uint64(a[i])
		a[i] = uint32(part / uint64(by))
		left = part % uint64(by)
	}
	return uint32(left)
}

// divideLong divides limb by limb, as on paper. Both are trimmed, b has at least two limbs, and a isn't less than b.
func divideLong(a, b Nat) (Nat, Nat) {
	// Shifted till its topmost bit is set, the divisor's last limb is so great that a limb of the quotient can be guessed by it.
	shift := bits.LeadingZeros32(b[len(b)-1])
	left, by := shiftUp(a, shift), Trim(shiftUp(b, shift))
	quotient := make(Nat, len(a)-len(b)+1)
	for i := len(quotient) - 1; i >= 0; i-- {
		quotient[i] = divideStep(left[i:i+len(by)+1], by)
	}
	return Trim(quotient), Trim(shiftDown(left, shift))
}

// divideStep takes by from left as often as it goes, and answers how often. left has one limb more than by, and is less than 2^32 times by.
func divideStep(left, by Nat) uint32 {
	n := len(by)
	times := guess(left, by)
	borrowed := subMultiple(left[:n], by, times)
	if left[n] < borrowed {
		// The guess was one too great: by is given back once, and its carry pays for the one that left[n] lacks.
		times--
		borrowed -= addMultiple(left[:n], by, 1)
	}
	left[n] -= borrowed
	return times
}

// guess answers, from the most significant limbs alone, how often by goes into left: at most one too often.
func guess(left, by Nat) uint32 {
	n := len(by)
	first, second := uint64(by[n-1]), uint64(by[n-2])
	top := uint64(left[n])<<limbBits | uint64(left[n-1])
	times, rest := top/first, top%first
	for times>>limbBits != 0 || times*second > rest<<limbBits|uint64(left[n-2]) {
		times--
		rest += first
		if rest>>limbBits != 0 {
			break
		}
	}
	return uint32(times)
}

// subMultiple takes b times factor from out, which is as long as b, and answers what is borrowed from beyond it.
func subMultiple(out, b Nat, factor uint32) uint32 {
	var borrow uint64
	for i, limb := range b {
		product := uint64(limb)*uint64(factor) + borrow
		borrow = product >> limbBits
		if out[i] < uint32(product) {
			borrow++
		}
		out[i] -= uint32(product)
	}
	return uint32(borrow)
}

// shiftUp answers a times 2^by, with one limb more than a has; by is less than a limb's width.
func shiftUp(a Nat, by int) Nat {
	out := make(Nat, 0, len(a)+1)
	var carry uint64
	for _, limb := range a {
		wide := uint64(limb)<<by | carry
		out = append(out, uint32(wide))
		carry = wide >> limbBits
	}
	return append(out, uint32(carry))
}

// shiftDown answers a divided by 2^by, rounded down, with as many limbs; by is less than a limb's width.
func shiftDown(a Nat, by int) Nat {
	out := make(Nat, len(a))
	var above uint64
	for i := len(a) - 1; i >= 0; i-- {
		wide := above<<limbBits | uint64(a[i])
		out[i] = uint32(wide >> by)
		above = uint64(a[i])
	}
	return out
}

// Gcd answers the greatest number that both are multiples of; of 0 and b it is b.
func Gcd(a, b Nat) Nat {
	for {
		x, smallA := Small(a)
		y, smallB := Small(b)
		if smallA && smallB {
			return Of(gcdSmall(x, y))
		}
		if smallB && y == 0 {
			return Trim(a)
		}
		_, left := Div(a, b)
		a, b = b, left
	}
}

// gcdSmall is Gcd without lists, since most numbers of fractions are small.
func gcdSmall(a, b uint64) uint64 {
	for b != 0 {
		a, b = b, a%b
	}
	return a
}

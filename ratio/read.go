package ratio

import "foundry/nat"

// mostBelow is how far whole numbers of 64 bits reach below 0; above 0 they reach one less far.
const mostBelow = 1 << 63

// Cmp answers -1, 0 or 1, as x is less than y, the same, or more.
func Cmp(x, y Ratio) int {
	return sign(minus(counted(x), counted(y)))
}

// Sign answers -1, 0 or 1, as x is less than 0, 0, or more.
func Sign(x Ratio) int {
	return sign(counted(x))
}

// sign asks for the numerator first, since 0 has no sign whatever Neg is.
func sign(x Ratio) int {
	if len(x.Num) == 0 {
		return 0
	}
	if x.Neg {
		return -1
	}
	return 1
}

// Floor answers the greatest whole number not above x, and true; 0 and false, if that is no int64.
func Floor(x Ratio) (int64, bool) {
	return floor(counted(x))
}

// Round answers x rounded, half towards plus infinity, and true; 0 and false, if that is no int64.
func Round(x Ratio) (int64, bool) {
	half := Ratio{Num: nat.Of(1), Den: nat.Of(2)}
	return floor(plus(counted(x), half))
}

// floor is Floor of what need not be reduced, since a quotient is the same either way.
func floor(x Ratio) (int64, bool) {
	whole, left := nat.Div(x.Num, x.Den)
	if !x.Neg {
		n, small := nat.Small(whole)
		if !small || n >= mostBelow {
			return 0, false
		}
		return int64(n), true
	}
	if len(left) > 0 {
		whole = nat.Add(whole, nat.Of(1))
	}
	n, small := nat.Small(whole)
	if !small || n > mostBelow {
		return 0, false
	}
	return int64(-n), true
}

// Text answers x's numerator, with its sign, and, where it isn't 1, its denominator behind a stroke.
func Text(x Ratio) string {
	x = counted(x)
	text := nat.Text(x.Num)
	if x.Neg {
		text = "-" + text
	}
	if !isOne(x.Den) {
		text += "/" + nat.Text(x.Den)
	}
	return text
}

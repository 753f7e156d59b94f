package nat

import (
	"strconv"
	"strings"
)

// Digits are got in groups, each as great a power of ten as a limb holds.
const (
	groupDigits = 9
	group       = 1000000000
)

// Text answers a in decimal digits.
func Text(a Nat) string {
	groups := digitGroups(a)
	var text strings.Builder
	for i := len(groups) - 1; i >= 0; i-- {
		digits := strconv.FormatUint(uint64(groups[i]), 10)
		if i < len(groups)-1 {
			text.WriteString(strings.Repeat("0", groupDigits-len(digits)))
		}
		text.WriteString(digits)
	}
	return text.String()
}

// digitGroups answers a's groups of digits, the least significant first; of 0 there is one, since 0 has a digit.
func digitGroups(a Nat) []uint32 {
	left := Trim(a)
	var groups []uint32
	for {
		groups = append(groups, divideByLimb(left, group))
		left = significant(left)
		if len(left) == 0 {
			return groups
		}
	}
}

package rank

import (
	"theodolite/api"
	"theodolite/wide"
)

// Check is ErrQuant, if num / den is no part of a whole.
func Check(num, den uint64) api.Errno {
	if den == 0 || num > den {
		return api.ErrQuant
	}
	return api.OK
}

// Cmp is -1, 0 or 1, as a / b is less than c / d, the same, or more; 0, if b or d is 0.
func Cmp(a, b, c, d uint64) int {
	if b == 0 || d == 0 {
		return 0
	}
	return wide.Mul(a, d).Cmp(wide.Mul(c, b))
}

// Least is the same part with the least numbers; zeros, if it may not be.
func Least(num, den uint64) (uint64, uint64) {
	if Check(num, den) != api.OK {
		return 0, 0
	}
	most := divisor(num, den)
	return num / most, den / most
}

// divisor is the greatest number that divides both, one of which isn't 0.
func divisor(a, b uint64) uint64 {
	for b != 0 {
		a, b = b, a%b
	}
	return a
}

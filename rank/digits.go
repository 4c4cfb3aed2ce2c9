package rank

import "theodolite/api"

// mostPower is how many times 10 has room in 64 bits.
const mostPower = 19

// Power is 10^d.
func Power(d int) (uint64, api.Errno) {
	if d < 0 || d > mostPower {
		return 0, api.ErrArg
	}
	n := uint64(1)
	for range d {
		n *= 10
	}
	return n, api.OK
}

// Digits is how many decimal digits n has.
func Digits(n uint64) int {
	d := 1
	for n >= 10 {
		n /= 10
		d++
	}
	return d
}

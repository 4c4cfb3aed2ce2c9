package wide

import (
	"math/bits"

	"theodolite/api"
)

// Term is a number with a sign, and its weight.
type Term struct {
	V int64
	N uint64
}

// Mean is the floor of the terms' mean by their weights.
func Mean(l []Term) (int64, api.Errno) {
	var sum Num
	var weight, carry uint64
	for _, t := range l {
		weight, carry = bits.Add64(weight, t.N, 0)
		if carry != 0 {
			return 0, api.ErrWide
		}
		// No 128 bits are outgrown: each number is below 2^64, and all weights together are.
		sum, _ = sum.Add(Mul(lift(t.V), t.N))
	}
	floor, _, e := narrow(sum.Div, weight)
	if e != api.OK {
		return 0, e
	}
	return lower(floor), api.OK
}

// Avg is the floor of the mean of m and n by their weights v and w.
func Avg(m int64, v uint64, n int64, w uint64) (int64, api.Errno) {
	return Mean([]Term{{m, v}, {n, w}})
}

// Lerp is where one comes to who goes from low on at parts of of the way to high, cut off to a whole number.
func Lerp(low, high int64, at, of uint64) (int64, api.Errno) {
	if high < low || at > of {
		return 0, api.ErrWide
	}
	from := lift(low)
	far, _, e := MulDiv(lift(high)-from, at, of)
	if e != api.OK {
		return 0, e
	}
	return lower(from + far), api.OK
}

// lift is v and 2^63 together: numbers with a sign are reckoned with as these, that have none, since a mean of them is the mean that much higher, and its floor the floor.
func lift(v int64) uint64 {
	return uint64(v) ^ 1<<63
}

// lower is the number whose lift n is.
func lower(n uint64) int64 {
	return int64(n ^ 1<<63)
}

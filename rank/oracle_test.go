package rank_test

import (
	"math"
	"math/big"
	"math/rand"

	"theodolite/api"
)

const full = math.MaxUint64

// num is n as a number of any size.
func num(n uint64) *big.Int { return new(big.Int).SetUint64(n) }

// part is num / den, as a fraction of numbers of any size.
func part(n, den uint64) *big.Rat { return new(big.Rat).SetFrac(num(n), num(den)) }

// check is what P11.1's words make of Check.
func check(n, den uint64) api.Errno {
	if den == 0 || n > den {
		return api.ErrQuant
	}
	return api.OK
}

// order is what P11.1's words make of Cmp.
func order(a, b, c, d uint64) int {
	if b == 0 || d == 0 {
		return 0
	}
	return part(a, b).Cmp(part(c, d))
}

// least is what P11.1's words make of Least.
func least(n, den uint64) (uint64, uint64) {
	if check(n, den) != api.OK {
		return 0, 0
	}
	p := part(n, den)
	return p.Num().Uint64(), p.Denom().Uint64()
}

// rankOf is what P11.2's words make of Rank.
func rankOf(n, den, all uint64) (uint64, api.Errno) {
	if e := check(n, den); e != api.OK {
		return 0, e
	}
	if all == 0 {
		return 0, api.ErrEmpty
	}
	p := part(n, den)
	p.Mul(p, new(big.Rat).SetInt(num(all)))
	q, left := new(big.Int).QuoRem(p.Num(), p.Denom(), new(big.Int))
	if left.Sign() > 0 || q.Sign() == 0 {
		q.Add(q, big.NewInt(1))
	}
	return q.Uint64(), api.OK
}

// spotOf is what P11.2's words make of Spot.
func spotOf(n, den, all uint64) (uint64, api.Errno) {
	switch e := check(n, den); {
	case e != api.OK:
		return 0, e
	case all == 0:
		return 0, api.ErrEmpty
	case all > 1<<62:
		return 0, api.ErrCap
	}
	p := part(n, den)
	p.Mul(p, new(big.Rat).SetInt(num(2*all)))
	return new(big.Int).Quo(p.Num(), p.Denom()).Uint64(), api.OK
}

// cut is what P11.4's words make of Cut.
func cut(all uint64, k int) ([]uint64, api.Errno) {
	if k < 1 || k > 1000 {
		return nil, api.ErrArg
	}
	if all == 0 {
		return nil, api.ErrEmpty
	}
	var l []uint64
	for i := 1; i < k; i++ {
		at, _ := rankOf(uint64(i), uint64(k), all)
		l = append(l, at)
	}
	return l, api.OK
}

// ends are numbers at which something turns.
func ends() []uint64 {
	return []uint64{0, 1, 2, 3, 10, 1<<32 - 1, 1 << 32, 1<<32 + 1, 1<<62 - 1, 1 << 62, 1<<62 + 1, 1<<63 - 1, 1 << 63, 1<<63 + 1, full - 1, full}
}

// any64 is a number of any count of bits.
func any64(dice *rand.Rand) uint64 { return dice.Uint64() >> dice.Intn(65) }

// anyPart is a part that may be.
func anyPart(dice *rand.Rand) (uint64, uint64) {
	den := any64(dice) | 1
	if dice.Intn(2) == 0 {
		den = den/2 + 1
	}
	switch dice.Intn(8) {
	case 0:
		return 0, den
	case 1:
		return den, den
	}
	return dice.Uint64() % den, den
}

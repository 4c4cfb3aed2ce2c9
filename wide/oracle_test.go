package wide_test

import (
	"math"
	"math/big"
	"math/rand"

	"theodolite/api"
	"theodolite/wide"
)

// num is n as a number of any size.
func num(n uint64) *big.Int { return new(big.Int).SetUint64(n) }

// signed is n as a number of any size.
func signed(n int64) *big.Int { return big.NewInt(n) }

// whole is x as a number of any size.
func whole(x wide.Num) *big.Int {
	n := num(x.Hi)
	return n.Add(n.Lsh(n, 64), num(x.Lo))
}

// short is n as one of 64 bits, and whether it has room there.
func short(n *big.Int) (uint64, bool) { return n.Uint64(), n.IsUint64() }

// product, sum and rest are a b, a + b and a - b.
func product(a, b *big.Int) *big.Int { return new(big.Int).Mul(a, b) }
func sum(a, b *big.Int) *big.Int     { return new(big.Int).Add(a, b) }
func rest(a, b *big.Int) *big.Int    { return new(big.Int).Sub(a, b) }

// floor is the greatest whole number that isn't above a / b (b above 0), and what is left.
func floor(a, b *big.Int) (*big.Int, *big.Int) {
	q, left := new(big.Int).QuoRem(a, b, new(big.Int))
	if left.Sign() < 0 {
		q.Sub(q, big.NewInt(1))
		left.Add(left, b)
	}
	return q, left
}

// mulDiv is what P10.2's words make of MulDiv.
func mulDiv(a, b, d uint64) (uint64, uint64, api.Errno) {
	if d == 0 {
		return 0, 0, api.ErrWide
	}
	q, left := floor(product(num(a), num(b)), num(d))
	n, fits := short(q)
	if !fits {
		return 0, 0, api.ErrWide
	}
	return n, left.Uint64(), api.OK
}

// ceil is what P10.2's words make of Ceil.
func ceil(a, b, d uint64) (uint64, api.Errno) {
	if d == 0 {
		return 0, api.ErrWide
	}
	q, left := floor(product(num(a), num(b)), num(d))
	if left.Sign() > 0 {
		q.Add(q, big.NewInt(1))
	}
	n, fits := short(q)
	if !fits {
		return 0, api.ErrWide
	}
	return n, api.OK
}

// lerp is what P10.4's words make of Lerp.
func lerp(low, high int64, at, of uint64) (int64, api.Errno) {
	if high < low || at > of || of == 0 {
		return 0, api.ErrWide
	}
	far, _ := floor(product(rest(signed(high), signed(low)), num(at)), num(of))
	return sum(signed(low), far).Int64(), api.OK
}

// mean is what P10.6's words make of Mean.
func mean(l []wide.Term) (int64, api.Errno) {
	all, weight := new(big.Int), new(big.Int)
	for _, t := range l {
		all = sum(all, product(signed(t.V), num(t.N)))
		weight = sum(weight, num(t.N))
	}
	if n, fits := short(weight); n == 0 || !fits {
		return 0, api.ErrWide
	}
	q, _ := floor(all, weight)
	return q.Int64(), api.OK
}

// ends are numbers at which something turns.
func ends() []uint64 {
	return []uint64{0, 1, 2, 3, 10, 1<<32 - 1, 1 << 32, 1<<32 + 1, 1<<63 - 1, 1 << 63, 1<<63 + 1, math.MaxUint64 - 1, math.MaxUint64}
}

// signedEnds are likewise, with a sign.
func signedEnds() []int64 {
	return []int64{math.MinInt64, math.MinInt64 + 1, -1 << 62, -1<<32 - 1, -3, -2, -1, 0, 1, 2, 3, 1<<32 - 1, 1 << 62, math.MaxInt64 - 1, math.MaxInt64}
}

// wides are wide numbers at which something turns.
func wides() []wide.Num {
	var l []wide.Num
	for _, hi := range ends() {
		for _, lo := range ends() {
			l = append(l, wide.Num{Hi: hi, Lo: lo})
		}
	}
	return l
}

// any64 is a number of any count of bits.
func any64(dice *rand.Rand) uint64 { return dice.Uint64() >> dice.Intn(65) }

// anySigned is likewise, with a sign.
func anySigned(dice *rand.Rand) int64 { return int64(dice.Uint64()) >> dice.Intn(64) }

// anyWide is a wide number of any count of bits.
func anyWide(dice *rand.Rand) wide.Num {
	if dice.Intn(3) == 0 {
		return wide.Num{Lo: any64(dice)}
	}
	return wide.Num{Hi: any64(dice), Lo: dice.Uint64()}
}

// anyTerms are so many terms, whose weights together are about 2^64, or fewer.
func anyTerms(dice *rand.Rand, many int) []wide.Term {
	l := make([]wide.Term, many)
	shift := dice.Intn(64)
	for k := range l {
		l[k] = wide.Term{V: anySigned(dice), N: dice.Uint64() >> shift / uint64(many)}
		if dice.Intn(8) == 0 {
			l[k].N = uint64(dice.Intn(3))
		}
	}
	return l
}

package scale_test

import (
	"math"
	"math/big"
	"math/rand"
	"testing"

	"theodolite/api"
	"theodolite/scale"
)

const (
	least = math.MinInt64
	most  = math.MaxInt64
)

// place is a range by the chapter's words.
type place struct{ begin, middle, end int64 }

// ranges are all ranges of an accuracy, reckoned by numbers of any size.
func ranges(a int) []place {
	var l []place
	for at := int64(0); at < most; at = l[len(l)-1].end {
		begin := big.NewInt(at)
		begin.Add(begin, big.NewInt(1))
		middle := capped(new(big.Int).Add(begin, quotient(int64(a), begin, 10000)))
		end := capped(quotient(10000, middle, 10000-int64(a)))
		l = append(l, place{begin.Int64(), middle.Int64(), end.Int64()})
	}
	return l
}

// quotient is the floor of a b / d.
func quotient(a int64, b *big.Int, d int64) *big.Int {
	n := new(big.Int).Mul(big.NewInt(a), b)
	return n.Quo(n, big.NewInt(d))
}

// capped is n, but at most 2^63 - 1.
func capped(n *big.Int) *big.Int {
	if n.IsInt64() {
		return n
	}
	return big.NewInt(most)
}

// keyOf is what P12.2's words make of Key: the ranges are gone through one by one.
func keyOf(l []place, v int64) (int, api.Errno) {
	switch {
	case v == least:
		return 0, api.ErrRange
	case v == 0:
		return 0, api.OK
	case v < 0:
		k, e := keyOf(l, -v)
		return -k, e
	}
	for i, p := range l {
		if p.begin <= v && v <= p.end {
			return i + 1, api.OK
		}
	}
	panic("a gap")
}

// placeOf is what P12.3's words make of a key.
func placeOf(l []place, k int) (place, api.Errno) {
	switch {
	case k == 0:
		return place{}, api.OK
	case k > len(l) || k < -len(l):
		return place{}, api.ErrArg
	case k < 0:
		p := l[-k-1]
		return place{-p.end, -p.middle, -p.begin}, api.OK
	}
	return l[k-1], api.OK
}

// distance is how far v is from w.
func distance(v, w int64) *big.Int {
	d := new(big.Int).Sub(big.NewInt(v), big.NewInt(w))
	return d.Abs(d)
}

// anyNumber is a number with a sign, of any count of bits.
func anyNumber(dice *rand.Rand) int64 { return int64(dice.Uint64()) >> dice.Intn(64) }

// accuracies are some of those that may be, the ends among them.
func accuracies() []int {
	return []int{100, 101, 102, 199, 200, 333, 500, 777, 1000, 2000, 2500, 3333, 4096, 4999, 5000}
}

// made is the scale of an accuracy that may be.
func made(t *testing.T, a int) *scale.Scale {
	t.Helper()
	s, e := scale.New(a)
	if s == nil || e != api.OK {
		t.Fatalf("New(%d): %v, %d", a, s, e)
	}
	return s
}

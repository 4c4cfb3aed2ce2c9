package rank_test

import (
	"math/big"
	"math/rand"
	"strconv"
	"testing"

	"theodolite/api"
	"theodolite/rank"
)

// P11.3: all powers that have room, and none beside them.
func TestPower(t *testing.T) {
	for d := range 20 {
		want := new(big.Int).Exp(big.NewInt(10), big.NewInt(int64(d)), nil).Uint64()
		if n, e := rank.Power(d); n != want || e != api.OK {
			t.Errorf("Power(%d): %d, %d", d, n, e)
		}
	}
	for _, d := range []int{-1 << 63, -20, -1, 20, 21, 64, 1<<63 - 1} {
		if n, e := rank.Power(d); n != 0 || e != api.ErrArg {
			t.Errorf("Power(%d): %d, %d", d, n, e)
		}
	}
}

// P11.3: a number has as many digits as its decimal text.
func TestDigits(t *testing.T) {
	hold := func(n uint64) {
		t.Helper()
		if d := rank.Digits(n); d != len(strconv.FormatUint(n, 10)) {
			t.Fatalf("Digits(%d): %d", n, d)
		}
	}
	for n := range uint64(12000) {
		hold(n)
	}
	for d := range 20 {
		n, _ := rank.Power(d)
		hold(n - 1)
		hold(n)
		hold(n + 1)
		hold(9 * n)
	}
	for _, n := range ends() {
		hold(n)
	}
	dice := rand.New(rand.NewSource(6))
	for range 20000 {
		hold(any64(dice))
	}
}

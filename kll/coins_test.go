package kll_test

import (
	"bytes"
	"math/rand"
	"testing"

	"theodolite/kll"
)

// P24.1: the bits of bytes, the lowest one of each first.
func TestCoins(t *testing.T) {
	c := kll.NewCoins([]byte{0b00000101, 0b10000010})
	for k, want := range []int{1, 0, 1, 0, 0, 0, 0, 0, 0, 1, 0, 0, 0, 0, 0, 1} {
		if n := c.Left(); n != 16-k {
			t.Errorf("%d are left ahead of the coin %d", n, k)
		}
		if n := c.Next(); n != want {
			t.Errorf("coin %d: %d", k, n)
		}
	}
	for range 20 {
		if n, left := c.Next(), c.Left(); n != 0 || left != 0 {
			t.Errorf("behind the last one: %d, %d left", n, left)
		}
	}
}

// P24.1: of any bytes, and behind them.
func TestAnyCoins(t *testing.T) {
	dice := rand.New(rand.NewSource(241))
	for many := range 40 {
		b := make([]byte, many)
		dice.Read(b)
		c, l := kll.NewCoins(b), bitsOf(b)
		for range 8*many + 10 {
			wantCoins(t, c, l)
			if n, want := c.Next(), l.next(); n != want {
				t.Fatalf("% x: %d, not %d, with %d left", b, n, want, c.Left())
			}
		}
		wantCoins(t, c, nil)
	}
}

// P24.1: none has 0 both, as that of no bytes.
func TestNoCoins(t *testing.T) {
	var none *kll.Coins
	for i, c := range []*kll.Coins{none, kll.NewCoins(nil), kll.NewCoins([]byte{})} {
		for range 3 {
			if n, left := c.Next(), c.Left(); n != 0 || left != 0 {
				t.Errorf("%d: %d, %d left", i, n, left)
			}
		}
	}
	if kll.NewCoins(nil) == nil {
		t.Error("NewCoins of nil is nil")
	}
}

// P24.1: bytes that are handed in are neither changed nor kept, and coins of the same bytes go each by themselves.
func TestCoinsKeepNone(t *testing.T) {
	b := []byte{255, 255, 255, 255}
	c, o := kll.NewCoins(b[:2]), kll.NewCoins(b[:2])
	if c.Next(); c.Left() != 15 || o.Left() != 16 {
		t.Errorf("%d and %d are left", c.Left(), o.Left())
	}
	if !bytes.Equal(b, []byte{255, 255, 255, 255}) {
		t.Errorf("the bytes are % x", b)
	}
	clear(b)
	for o.Left() > 0 {
		if o.Next() != 1 {
			t.Fatalf("a coin is another one, %d are left", o.Left())
		}
	}
}

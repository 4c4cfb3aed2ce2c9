package kll

import "theodolite/bitio"

// Coins are bits, one by one.
type Coins struct{ bits bitio.Reader }

// NewCoins are the coins that the bits of b are.
func NewCoins(b []byte) *Coins {
	return &Coins{*bitio.New(b)}
}

// Next is the next coin; of none, and behind the last one, 0.
func (c *Coins) Next() int {
	if c == nil {
		return 0
	}
	bit, _ := c.bits.Bit() // 0, where there is none
	return int(bit)
}

// Left is how many bits are left.
func (c *Coins) Left() int {
	if c == nil {
		return 0
	}
	return c.bits.Left()
}

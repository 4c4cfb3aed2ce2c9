package hdrmap

import (
	"math/bits"

	"theodolite/api"
	"theodolite/rank"
)

const (
	mostDigits = 5
	mostBits   = 62 // of the values in the first bucket
)

// mayBe is whether a shape may be.
func mayBe(h api.Hdr) bool {
	switch {
	case h.Digits < 1 || h.Digits > mostDigits:
		return false
	case h.Lowest < 1 || h.Highest/2 < h.Lowest: // twice Lowest may have no room
		return false
	}
	return unitOf(h)+magnitudeOf(h) <= mostBits
}

// unitOf is the unit of a shape whose Lowest may be.
func unitOf(h api.Hdr) int { return bits.Len64(uint64(h.Lowest)) - 1 }

// magnitudeOf is the magnitude of a shape whose Digits may be.
func magnitudeOf(h api.Hdr) int {
	apart, _ := rank.Power(h.Digits) // of five digits at most: there is room
	return bits.Len64(2*apart - 1)
}

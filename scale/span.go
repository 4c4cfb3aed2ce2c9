package scale

import (
	"math"

	"theodolite/wide"
)

const (
	whole = 10000         // in how many parts of it an accuracy is told
	top   = math.MaxInt64 // the greatest number of all
)

// span is a range: the number it begins with, the one that stands for it, and the one it ends with.
type span struct{ from, near, to uint64 }

// cut is the range that begins with a number, of an accuracy.
func cut(from, a uint64) span {
	// Nothing outgrows 64 bits, for an accuracy is at most the half of the whole: what is added is at most the half of from, what is told then at most twice near.
	more, _, _ := wide.MulDiv(a, from, whole)
	near := min(from+more, top)
	to, _, _ := wide.MulDiv(whole, near, whole-a)
	return span{from, near, min(to, top)}
}

// begin is the least number of a range.
func (r span) begin() int64 { return int64(r.from) }

// middle is the number that stands for a range.
func (r span) middle() int64 { return int64(r.near) }

// end is the greatest number of a range.
func (r span) end() int64 { return int64(r.to) }

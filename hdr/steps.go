package hdr

import (
	"theodolite/api"
	"theodolite/walk"
	"theodolite/wide"
)

// Limits of steps.
const (
	mostSteps  = 4096
	mostBase   = 1 << 31
	mostTicks  = 64
	mostHalved = 1 << 50 // how much is halved at most: the parts' numbers have room
	beyond     = 1 << 63 // one more than the greatest value
)

// Step of going through a histogram: up to which value, how much came in this step, how much in all so far.
type Step struct {
	To          int64
	Count, Upto uint64
}

// Linear are steps of one width.
func (x *Hist) Linear(width int64) ([]Step, api.Errno) {
	if width < 1 {
		return nil, api.ErrArg
	}
	t := x.table()
	if begin, e := x.end(t, 1, 1, x.cells.Low); e == api.OK && begin/width >= mostSteps {
		return nil, api.ErrArg
	}
	return x.rising(t, width, func(end uint64) uint64 { return end + uint64(width) }), api.OK
}

// Doubling are steps the first one of which has first values, and all up to each next one base times as many as all up to the one ahead.
func (x *Hist) Doubling(first, base int64) ([]Step, api.Errno) {
	if first < 1 || base < 2 || base > mostBase {
		return nil, api.ErrArg
	}
	return x.rising(x.table(), first, func(end uint64) uint64 {
		more, _, e := wide.MulDiv(end, uint64(base), 1)
		if e != api.OK {
			return beyond
		}
		return more
	}), api.OK
}

// Halves are steps up to parts that come nearer to the whole, by so many ticks for each half of what is left.
func (x *Hist) Halves(ticks int) ([]Step, api.Errno) {
	switch {
	case ticks < 1 || ticks > mostTicks:
		return nil, api.ErrArg
	case x.total > mostHalved:
		return nil, api.ErrCap
	}
	t, told := x.table(), 0
	return x.steps(t, func() int64 {
		num, den := halved(told/ticks, told%ticks, ticks)
		told++
		to, _ := x.end(t, num, den, x.cells.High) // a part that may be, and something is counted: there is no error
		return to
	}), api.OK
}

// rising are steps that have all values below an end: first, and then what next makes of the end ahead, which is at most 2^63.
func (x *Hist) rising(t *walk.Table, first int64, next func(end uint64) uint64) []Step {
	end := uint64(first)
	return x.steps(t, func() int64 {
		to := int64(end - 1)
		end = min(next(end), beyond)
		return to
	})
}

// steps are as many as it takes to come to all that is counted, each up to the value that to tells next.
func (x *Hist) steps(t *walk.Table, to func() int64) []Step {
	var l []Step
	for upto := uint64(0); upto < x.total; {
		s := Step{To: to()}
		s.Upto = t.Upto(x.index(s.To))
		s.Count = s.Upto - upto
		upto = s.Upto
		l = append(l, s)
	}
	return l
}

// halved is the part (2^h - 1) / 2^h and tick / (2^(h+1) ticks) together.
func halved(h, tick, ticks int) (uint64, uint64) {
	den := uint64(ticks) << (h + 1)
	return den - 2*uint64(ticks) + uint64(tick), den
}

package digest

import (
	"sort"

	"theodolite/api"
	"theodolite/rank"
	"theodolite/wide"
)

// point is a number, and where it stands: half a value is one step.
type point struct {
	v  int64
	at uint64
}

// Total is the weight of all means together.
func (x *Digest) Total() uint64 { return x.total }

// Ends are the least and the greatest value that came.
func (x *Digest) Ends() (int64, int64, api.Errno) {
	if x.total == 0 {
		return 0, 0, api.ErrEmpty
	}
	return x.least, x.most, api.OK
}

// List is the means that are listed.
func (x *Digest) List() []api.Mean { return told(x.list) }

// Waits is the means that wait.
func (x *Digest) Waits() []api.Mean { return told(x.waits) }

// At is what stands at a part's spot.
func (x *Digest) At(num, den uint64) (int64, api.Errno) {
	spot, e := rank.Spot(num, den, x.total)
	switch {
	case e != api.OK:
		return 0, e
	case spot == 2*x.total:
		return x.most, api.OK // no point is beyond it
	}
	a, b := x.around(func(p point) bool { return p.at > spot })
	return wide.Lerp(a.v, b.v, spot-a.at, b.at-a.at)
}

// Upto is how many values there may be up to v.
func (x *Digest) Upto(v int64) uint64 {
	switch {
	case v < x.least:
		return 0
	case v >= x.most:
		return x.total // 0 of an empty one, too, whose ends are 0
	}
	a, b := x.around(func(p point) bool { return p.v > v })
	// v is less than b's number: there is no error.
	far, _, _ := wide.MulDiv(b.at-a.at, uint64(v)-uint64(a.v), uint64(b.v)-uint64(a.v))
	return (a.at + far) / 2
}

// Mean is the floor of the mean of all that came, as far as means tell it.
func (x *Digest) Mean() (int64, api.Errno) {
	var l []wide.Term
	for _, m := range x.means() {
		l = append(l, wide.Term(m))
	}
	v, e := wide.Mean(l)
	if e != api.OK {
		return 0, api.ErrEmpty // all weights together have room: there is none
	}
	return v, api.OK
}

// around is the last point that isn't beyond something, and the one behind it; the first point isn't, the last one is.
func (x *Digest) around(beyond func(p point) bool) (point, point) {
	l := x.points()
	i := sort.Search(len(l), func(i int) bool { return beyond(l[i]) })
	return l[i-1], l[i]
}

// points are the points of a digest to which something came.
func (x *Digest) points() []point {
	l := []point{{x.least, 0}}
	done := uint64(0)
	for _, m := range x.pressed() {
		l = append(l, point{m.V, 2*done + m.N})
		done += m.N
	}
	return append(l, point{x.most, 2 * x.total})
}

package digest

import (
	"cmp"

	"theodolite/api"
	"theodolite/wide"
)

// mean is a number that stands for N values.
type mean api.Mean

// own are means as they are kept.
func own(l []api.Mean) []mean {
	var o []mean
	for _, m := range l {
		o = append(o, mean(m))
	}
	return o
}

// told are means as they are answered.
func told(l []mean) []api.Mean {
	var o []api.Mean
	for _, m := range l {
		o = append(o, api.Mean(m))
	}
	return o
}

// order is -1, 0 or 1, as m's number is less than o's, the same, or more.
func (m mean) order(o mean) int { return cmp.Compare(m.V, o.V) }

// with is what m and o are together.
func (m mean) with(o mean) mean {
	v, _ := wide.Avg(m.V, m.N, o.V, o.N) // neither stands for none, and both for no more than a digest's total: there is no error
	return mean{v, m.N + o.N}
}

// Press has all means pressed together.
func (x *Digest) Press() { x.list, x.waits = x.pressed(), nil }

// pressFull presses, if as many wait as the fineness says.
func (x *Digest) pressFull() {
	if len(x.waits) >= x.fineness {
		x.Press()
	}
}

// pressed is the list that pressing makes.
func (x *Digest) pressed() []mean {
	var l []mean
	done := uint64(0) // the weight of all but the last one
	// The list rises already: what waits is sorted alone, and comes behind those of the list that are alike.
	for _, m := range merged(x.list, sorted(x.waits, mean.order), mean.order) {
		last := len(l) - 1
		switch {
		case last < 0:
			l = append(l, m)
		case x.may(done, l[last].N+m.N):
			l[last] = l[last].with(m)
		default:
			done += l[last].N
			l = append(l, m)
		}
	}
	return l
}

// may is whether there may be a mean of the weight w behind others of the weight done: the nearer to an end, the less.
func (x *Digest) may(done, w uint64) bool {
	middle := 2*done + w
	return wide.Mul(w*uint64(x.fineness), x.total).Cmp(wide.Mul(middle, 2*x.total-middle)) <= 0
}

// sorted is a list by an order; those that are the same by it stay as they stand.
func sorted(l []mean, order func(a, b mean) int) []mean {
	if len(l) < 2 {
		return l
	}
	half := len(l) / 2
	return merged(sorted(l[:half], order), sorted(l[half:], order), order)
}

// merged is two sorted lists as one; of those that are the same a's come first.
func merged(a, b []mean, order func(a, b mean) int) []mean {
	l := make([]mean, 0, len(a)+len(b))
	for len(a) > 0 && len(b) > 0 {
		if order(a[0], b[0]) <= 0 {
			l, a = append(l, a[0]), a[1:]
		} else {
			l, b = append(l, b[0]), b[1:]
		}
	}
	return append(append(l, a...), b...)
}

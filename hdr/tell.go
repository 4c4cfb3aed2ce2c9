package hdr

import (
	"cmp"
	"slices"

	"theodolite/api"
	"theodolite/rank"
	"theodolite/walk"
	"theodolite/wide"
)

// Total is all that is counted.
func (x *Hist) Total() uint64 { return x.total }

// Count is how much is counted in v's cell.
func (x *Hist) Count(v int64) uint64 {
	if v < 0 {
		return 0
	}
	return x.counts[x.index(v)]
}

// Between is how much is counted in all cells from v's to w's.
func (x *Hist) Between(v, w int64) uint64 {
	if w < v {
		return 0
	}
	first, last := x.index(v), x.index(w)
	all := uint64(0)
	for i, n := range x.counts {
		if first <= i && i <= last {
			all += n
		}
	}
	return all
}

// Least is the least value of the least cell that was counted.
func (x *Hist) Least() (int64, api.Errno) { return x.end(x.table(), 0, 1, x.cells.Low) }

// Most is the greatest value of the greatest cell that was counted.
func (x *Hist) Most() (int64, api.Errno) { return x.end(x.table(), 1, 1, x.cells.High) }

// At is the greatest value of the cell of the thing of a part's rank.
func (x *Hist) At(num, den uint64) (int64, api.Errno) {
	return x.end(x.table(), num, den, x.cells.High)
}

// Share is how much is counted up to v's cell among all, as a part with the least numbers.
func (x *Hist) Share(v int64) (uint64, uint64, api.Errno) {
	if x.total == 0 {
		return 0, 0, api.ErrEmpty
	}
	num, den := rank.Least(x.Between(0, v), x.total)
	return num, den, api.OK
}

// Mean is the floor of the mean of what is counted, each cell standing for its middle.
func (x *Hist) Mean() (int64, api.Errno) {
	if x.total == 0 {
		return 0, api.ErrEmpty
	}
	var l []wide.Term
	for i, n := range x.counts {
		l = append(l, wide.Term{V: x.middle(i), N: n})
	}
	mean, _ := wide.Mean(l) // the total is neither 0 nor too great: there is no error
	return mean, api.OK
}

// Pairs are the indexes of all cells that were counted, rising, and their counts.
func (x *Hist) Pairs() []api.Pair {
	l := make([]api.Pair, 0, len(x.counts))
	for i, n := range x.counts {
		l = append(l, api.Pair{Key: i, N: n})
	}
	slices.SortFunc(l, func(p, q api.Pair) int { return cmp.Compare(p.Key, q.Key) })
	return l
}

// middle is what a cell that was counted stands for.
func (x *Hist) middle(i int) int64 {
	begin, _ := x.cells.Value(i)
	size, _ := x.cells.Size(begin)
	return begin + size/2
}

// table has the counts as they stand now, by their cells' indexes.
func (x *Hist) table() *walk.Table {
	t, _ := walk.New(x.Pairs()) // they rise, and are no more than may be: there is no error
	return t
}

// end is an end of the cell of the thing of a part's rank, of the counts that t has.
func (x *Hist) end(t *walk.Table, num, den uint64, tell func(v int64) (int64, api.Errno)) (int64, api.Errno) {
	i, e := t.Part(num, den)
	if e != api.OK {
		return 0, e
	}
	begin, _ := x.cells.Value(i)
	return tell(begin)
}

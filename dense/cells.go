package dense

// span is all keys from one to another.
type span struct{ least, most int }

// width is how many keys there are in a span.
func (p span) width() int { return p.most - p.least + 1 }

// join is the span that has the keys of both, and those between.
func (p span) join(q span) span { return span{min(p.least, q.least), max(p.most, q.most)} }

// cells are the counts of keys that lie side by side.
type cells struct {
	first  int // the key of the first count
	counts []uint64
}

// spread is cells for a span, with spare ones on both sides: keys that come one by one, from either side, need new ones but now and then.
func spread(p span) cells {
	spare := p.width() / 2
	return cells{p.least - spare, make([]uint64, p.width()+2*spare)}
}

// hold is whether there is a cell for each key of a span.
func (c cells) hold(p span) bool {
	return c.first <= p.least && p.most < c.first+len(c.counts)
}

// at is the count of a key: 0 of one that has no cell.
func (c cells) at(k int) uint64 {
	if !c.hold(span{k, k}) {
		return 0
	}
	return c.counts[k-c.first]
}

// add counts a key that has a cell.
func (c cells) add(k int, n uint64) { c.counts[k-c.first] += n }

// wipe makes the count of a key that has a cell 0.
func (c cells) wipe(k int) { c.counts[k-c.first] = 0 }

package inflate_test

import (
	"bytes"
	"slices"
	"strings"

	"theodolite/api"
)

// Rows are bits one by one, in zeros and ones: by them streams are put together, and read once more, as the chapter's words have it.

// group has a number of c bits, the lowest one first.
func group(n, c int) string {
	var row strings.Builder
	for k := range c {
		row.WriteByte('0' + byte(n>>k&1))
	}
	return row.String()
}

// code has a number of c bits, the highest one first.
func code(n, c int) string {
	var row strings.Builder
	for k := c - 1; k >= 0; k-- {
		row.WriteByte('0' + byte(n>>k&1))
	}
	return row.String()
}

// aligned is a row, filled up with a bit to whole bytes.
func aligned(row, with string) string {
	return row + strings.Repeat(with, -len(row)&7)
}

// pack are the bytes of a row, zeros behind it.
func pack(row string) []byte {
	row = aligned(row, "0")
	b := make([]byte, len(row)/8)
	for k := range row {
		b[k/8] |= (row[k] - '0') << (k % 8)
	}
	return b
}

// unpack is the row of bytes.
func unpack(b []byte) string {
	var row strings.Builder
	for _, x := range b {
		row.WriteString(group(int(x), 8))
	}
	return row.String()
}

// codes are those of lengths as rows; none is "".
func codes(lengths []byte) []string {
	out := make([]string, len(lengths))
	next, long := 0, 0
	for length := 1; length <= 15; length++ {
		for symbol, l := range lengths {
			if int(l) == length {
				next, long = next<<(length-long), length
				out[symbol] = code(next, length)
				next++
			}
		}
	}
	return out
}

// book are symbols by their codes.
type book map[string]int

// bookOf is that of lengths; false, if no set may have them.
func bookOf(lengths []byte) (b book, full, ok bool) {
	takes := 0
	b = book{}
	for symbol, row := range codes(lengths) {
		if row != "" {
			b[row] = symbol
			takes += 1 << (15 - len(row))
		}
	}
	full = takes == 1<<15
	return b, full, full || len(b) == 0 || len(b) == 1 && takes == 1<<14
}

// oracle reads a stream's row; its error stays.
type oracle struct {
	row   string
	limit int
	at    int
	told  []byte
	e     api.Errno
}

// fail keeps the first error.
func (o *oracle) fail(e api.Errno) {
	if o.e == api.OK {
		o.e = e
	}
}

// need tells whether all is well so far, and will be if this is.
func (o *oracle) need(ok bool, e api.Errno) bool {
	if !ok {
		o.fail(e)
	}
	return o.e == api.OK
}

// group reads one of c bits.
func (o *oracle) group(c int) int {
	if !o.need(o.at+c <= len(o.row), api.ErrEnd) {
		return 0
	}
	n := 0
	for k := range c {
		n |= int(o.row[o.at+k]-'0') << k
	}
	o.at += c
	return n
}

// symbol reads one by a book.
func (o *oracle) symbol(b book) int {
	longest := 0
	for row := range b {
		longest = max(longest, len(row))
	}
	for n := 1; n <= longest; n++ {
		if !o.need(o.at+n <= len(o.row), api.ErrEnd) {
			return 0
		}
		if symbol, ok := b[o.row[o.at:o.at+n]]; ok {
			o.at += n
			return symbol
		}
	}
	o.fail(api.ErrCode)
	return 0
}

// inflated is what the stream of b tells, how many bytes it has, and its error.
func inflated(b []byte, limit int) ([]byte, int, api.Errno) {
	if limit < 0 || limit > 1<<20 {
		return nil, 0, api.ErrArg
	}
	o := &oracle{row: unpack(b), limit: limit}
	for last := 0; last == 0 && o.e == api.OK; {
		last = o.group(1)
		switch kind := o.group(2); {
		case o.e != api.OK:
		case kind == 0:
			o.stored()
		case kind == 1:
			o.symbols(fixedLengths, fixedFars)
		case kind == 2:
			o.described()
		default:
			o.fail(api.ErrBlock)
		}
	}
	if o.e != api.OK {
		return nil, 0, o.e
	}
	return o.told, (o.at + 7) / 8, api.OK
}

// stored reads a stored block.
func (o *oracle) stored() {
	o.at = (o.at + 7) / 8 * 8
	count := o.group(16)
	contrary := o.group(16)
	if o.need(count+contrary == 65535, api.ErrStored) && o.need(len(o.told)+count <= o.limit, api.ErrLimit) && o.need(o.at+8*count <= len(o.row), api.ErrEnd) {
		for range count {
			o.told = append(o.told, byte(o.group(8)))
		}
	}
}

// order is that of the lengths' lengths.
var order = []int{16, 17, 18, 0, 8, 7, 9, 6, 10, 5, 11, 4, 12, 3, 13, 2, 14, 1, 15}

// described reads a described block.
func (o *oracle) described() {
	lits := o.group(5) + 257
	fars := o.group(5) + 1
	many := o.group(4) + 4
	if !o.need(lits <= 286 && fars <= 30, api.ErrCode) {
		return
	}
	short := make([]byte, 19)
	for _, s := range order[:many] {
		short[s] = byte(o.group(3))
	}
	b, full, _ := bookOf(short)
	if !o.need(full, api.ErrCode) {
		return
	}
	var l []byte
	for len(l) < lits+fars && o.e == api.OK {
		length, times := o.symbol(b), 1
		switch {
		case o.e != api.OK:
		case length == 16:
			if !o.need(len(l) > 0, api.ErrCode) {
				return
			}
			length, times = int(l[len(l)-1]), 3+o.group(2)
		case length == 17:
			length, times = 0, 3+o.group(3)
		case length == 18:
			length, times = 0, 11+o.group(7)
		}
		for range times {
			l = append(l, byte(length))
		}
		o.need(len(l) <= lits+fars, api.ErrCode)
	}
	if o.need(o.e != api.OK || l[256] > 0, api.ErrCode) {
		o.symbols(l[:lits], l[lits:])
	}
}

// fixedLengths and fixedFars are the fixed codes' lengths.
var (
	fixedLengths = slices.Concat(bytes.Repeat([]byte{8}, 144), bytes.Repeat([]byte{9}, 112), bytes.Repeat([]byte{7}, 24), bytes.Repeat([]byte{8}, 8))
	fixedFars    = bytes.Repeat([]byte{5}, 32)
)

// lengthBits and farBits are how many bits follow a length's symbol, from 257 on, and a distance's; lengthLeast and farLeast what it is at least: RFC 1951's tables.
var (
	lengthBits  = []int{0, 0, 0, 0, 0, 0, 0, 0, 1, 1, 1, 1, 2, 2, 2, 2, 3, 3, 3, 3, 4, 4, 4, 4, 5, 5, 5, 5, 0}
	lengthLeast = []int{3, 4, 5, 6, 7, 8, 9, 10, 11, 13, 15, 17, 19, 23, 27, 31, 35, 43, 51, 59, 67, 83, 99, 115, 131, 163, 195, 227, 258}
	farBits     = []int{0, 0, 0, 0, 1, 1, 2, 2, 3, 3, 4, 4, 5, 5, 6, 6, 7, 7, 8, 8, 9, 9, 10, 10, 11, 11, 12, 12, 13, 13}
	farLeast    = []int{1, 2, 3, 4, 5, 7, 9, 13, 17, 25, 33, 49, 65, 97, 129, 193, 257, 385, 513, 769, 1025, 1537, 2049, 3073, 4097, 6145, 8193, 12289, 16385, 24577}
)

// symbols reads symbols by the sets of these lengths.
func (o *oracle) symbols(lits, fars []byte) {
	byCode, _, ok := bookOf(lits)
	farByCode, _, farOK := bookOf(fars)
	o.need(ok && farOK, api.ErrCode)
	for o.e == api.OK {
		s := o.symbol(byCode)
		switch {
		case o.e != api.OK:
			return
		case s == 256:
			return
		case s < 256:
			if o.need(len(o.told) < o.limit, api.ErrLimit) {
				o.told = append(o.told, byte(s))
			}
			continue
		case !o.need(s <= 285, api.ErrCode):
			return
		}
		length := lengthLeast[s-257] + o.group(lengthBits[s-257])
		if o.e != api.OK {
			return
		}
		d := o.symbol(farByCode)
		if !o.need(d < 30, api.ErrCode) {
			return
		}
		far := farLeast[d] + o.group(farBits[d])
		if o.need(far <= len(o.told), api.ErrBack) && o.need(len(o.told)+length <= o.limit, api.ErrLimit) {
			for range length {
				o.told = append(o.told, o.told[len(o.told)-far])
			}
		}
	}
}

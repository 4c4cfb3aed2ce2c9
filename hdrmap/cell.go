package hdrmap

import "math/bits"

// cell is where a cell begins, and which power of two its size is.
type cell struct {
	begin int64
	width int
}

// low is the least value of a cell.
func (c cell) low() int64 { return c.begin }

// high is the greatest value of a cell: the last one of all ends with 2^63 - 1, so that there is room.
func (c cell) high() int64 { return c.begin + (c.size() - 1) }

// size is how many values a cell has.
func (c cell) size() int64 { return 1 << c.width }

// cell is the cell of a value from 0 on.
func (m *Map) cell(v int64) cell {
	width := m.width(m.bucket(v))
	return cell{v >> width << width, width}
}

// bucket is the bucket of a value from 0 on.
func (m *Map) bucket(v int64) int {
	return max(bits.Len64(uint64(v))-m.unit-m.magnitude, 0)
}

// width is which power of two the size of a bucket's cells is.
func (m *Map) width(b int) int { return m.unit + b }

// half is how many cells each bucket adds.
func (m *Map) half() int { return 1 << (m.magnitude - 1) }

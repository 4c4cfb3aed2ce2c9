package crc

// To feed a byte of 0 is to multiply by the eighth power of x: a sum's bits are a polynomial over two numbers, the highest bit that of the power 0, and a step multiplies it by x, as the remainder of the polynomial.
const zeroByte = 1 << (31 - 8)

// Shift is c fed n bytes of 0.
func Shift(c uint32, n int) uint32 {
	// The squares of zeroByte feed 1, 2, 4, 8 .. bytes: so few products do for any n.
	for power := uint32(zeroByte); n > 0; n >>= 1 {
		if n&1 != 0 {
			c = times(c, power)
		}
		power = times(power, power)
	}
	return c
}

// times is the product of two polynomials, as the remainder of the sum's one.
func times(a, b uint32) uint32 {
	var c uint32
	for ; a != 0; a <<= 1 {
		if a>>31 != 0 {
			c ^= b
		}
		b = step(b)
	}
	return c
}

// Join is the sum of two texts, one behind the other, whose sums a and b are, the second one having n bytes.
func Join(a, b uint32, n int) uint32 {
	return Shift(a, n) ^ b
}

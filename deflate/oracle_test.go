package deflate_test

import (
	"math/rand"
	"strings"

	"theodolite/match"
)

// Rows are bits one by one, in zeros and ones: by them streams are put together as the chapter's words have it.

// kind is symbols of numbers: the least number of each, and how many bits follow, as RFC 1951 lists them.
type kind struct {
	first, most int
	least, bits []int
}

// lengths are RFC 1951's, listed in its section 3.2.5.
func lengths() kind {
	return kind{257, 258,
		[]int{3, 4, 5, 6, 7, 8, 9, 10, 11, 13, 15, 17, 19, 23, 27, 31, 35, 43, 51, 59, 67, 83, 99, 115, 131, 163, 195, 227, 258},
		[]int{0, 0, 0, 0, 0, 0, 0, 0, 1, 1, 1, 1, 2, 2, 2, 2, 3, 3, 3, 3, 4, 4, 4, 4, 5, 5, 5, 5, 0},
	}
}

// distances are RFC 1951's, listed there too.
func distances() kind {
	return kind{0, 32768,
		[]int{1, 2, 3, 4, 5, 7, 9, 13, 17, 25, 33, 49, 65, 97, 129, 193, 257, 385, 513, 769, 1025, 1537, 2049, 3073, 4097, 6145, 8193, 12289, 16385, 24577},
		[]int{0, 0, 0, 0, 1, 1, 2, 2, 3, 3, 4, 4, 5, 5, 6, 6, 7, 7, 8, 8, 9, 9, 10, 10, 11, 11, 12, 12, 13, 13},
	}
}

// of is the symbol of n, the bits that follow, and the rest; false, if there is none.
func (k kind) of(n int) (symbol, bits, rest int, ok bool) {
	if n > k.most {
		return 0, 0, 0, false
	}
	for at, least := range k.least {
		if least <= n {
			symbol, bits, rest, ok = k.first+at, k.bits[at], n-least, true
		}
	}
	return symbol, bits, rest, ok
}

// group has a number of c bits, the lowest one first.
func group(n, c int) string {
	var row strings.Builder
	for k := range c {
		row.WriteByte('0' + byte(n>>k&1))
	}
	return row.String()
}

// code has a number of c bits, the highest one first.
func code(n, c int) string {
	var row strings.Builder
	for k := c - 1; k >= 0; k-- {
		row.WriteByte('0' + byte(n>>k&1))
	}
	return row.String()
}

// literal is the fixed code of a symbol, as RFC 1951 lists them in its section 3.2.6.
func literal(symbol int) string {
	switch {
	case symbol <= 143:
		return code(0b00110000+symbol, 8)
	case symbol <= 255:
		return code(0b110010000+symbol-144, 9)
	case symbol <= 279:
		return code(symbol-256, 7)
	}
	return code(0b11000000+symbol-280, 8)
}

// aligned is a row, filled up with zeros to whole bytes.
func aligned(row string) string {
	return row + strings.Repeat("0", -len(row)&7)
}

// pack are the bytes of a row.
func pack(row string) []byte {
	row = aligned(row)
	b := make([]byte, len(row)/8)
	for k := range row {
		b[k/8] |= (row[k] - '0') << (k % 8)
	}
	return b
}

// fixed is a text as one fixed block.
func fixed(b []byte) []byte {
	var row strings.Builder
	row.WriteString("1" + "10")
	for _, t := range match.Find(b) {
		if t.Back == 0 {
			row.WriteString(literal(int(t.Byte)))
			continue
		}
		symbol, bits, rest, _ := lengths().of(t.Len)
		row.WriteString(literal(symbol) + group(rest, bits))
		symbol, bits, rest, _ = distances().of(t.Back)
		row.WriteString(code(symbol, 5) + group(rest, bits))
	}
	return pack(row.String() + literal(256))
}

// stored is a text as stored blocks.
func stored(b []byte) []byte {
	var out []byte
	for {
		piece := b[:min(len(b), 65535)]
		b = b[len(piece):]
		last := byte(1)
		if len(b) > 0 {
			last = 0
		}
		n := len(piece)
		out = append(out, last, byte(n), byte(n>>8), ^byte(n), ^byte(n>>8))
		out = append(out, piece...)
		if len(b) == 0 {
			return out
		}
	}
}

// anyText is one of about so many bytes: any ones, few letters, runs, and pieces that stand again.
func anyText(dice *rand.Rand, size int) []byte {
	var b []byte
	for len(b) < size {
		switch dice.Intn(4) {
		case 0:
			for range dice.Intn(40) {
				b = append(b, byte(dice.Intn(256)))
			}
		case 1:
			for range dice.Intn(40) {
				b = append(b, 'a'+byte(dice.Intn(3)))
			}
		case 2:
			b = append(b, strings.Repeat(string(rune('a'+dice.Intn(26))), dice.Intn(600))...)
		case 3:
			if from := dice.Intn(len(b) + 1); from < len(b) {
				b = append(b, b[from:from+dice.Intn(min(700, len(b)-from))]...)
			}
		}
	}
	return b[:size]
}

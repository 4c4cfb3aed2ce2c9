package match_test

import (
	"math/rand"
	"slices"

	"theodolite/api"
)

// alike counts the bytes from a place on that are as those from here on, as far as they count.
func alike(b []byte, place, here int) int {
	n := 0
	for here+n < len(b) && n < 258 && b[place+n] == b[here+n] {
		n++
	}
	return n
}

// found are a text's tokens by the chapter's words: each place ahead is looked at.
func found(b []byte) []api.Token {
	var l []api.Token
	for here := 0; here < len(b); {
		size, at := 0, 0
		for place := 0; place < here; place++ {
			if n := alike(b, place, here); here-place <= 32768 && n >= size {
				size, at = n, place
			}
		}
		if size >= 3 {
			l = append(l, api.Token{Len: size, Back: here - at})
			here += size
		} else {
			l = append(l, api.Token{Byte: b[here]})
			here++
		}
	}
	return l
}

// told is the text of tokens by the chapter's words, and whether there is one.
func told(l []api.Token) ([]byte, bool) {
	b := []byte{}
	for _, t := range l {
		switch {
		case t.Back > len(b), t.Back < 0, t.Back > 32768:
			return nil, false
		case t.Back != 0 && (t.Len < 3 || t.Len > 258 || t.Byte != 0):
			return nil, false
		case t.Back == 0 && t.Len != 0:
			return nil, false
		case t.Back == 0:
			b = append(b, t.Byte)
		default:
			from := len(b) - t.Back
			for k := 0; k < t.Len; k++ {
				b = append(b, b[from+k])
			}
		}
		if len(b) > 1<<20 {
			return nil, false
		}
	}
	return b, true
}

// lit are the tokens of bytes.
func lit(s string) []api.Token {
	var l []api.Token
	for k := range len(s) {
		l = append(l, api.Token{Byte: s[k]})
	}
	return l
}

// again is the token of so many bytes from so far back.
func again(size, back int) []api.Token {
	return []api.Token{{Len: size, Back: back}}
}

// row puts tokens one behind the other.
func row(l ...[]api.Token) []api.Token {
	return slices.Concat(l...)
}

// anyText is a text of few letters in which much was there already.
func anyText(dice *rand.Rand, size int) []byte {
	letters := 1 + dice.Intn(5)
	if dice.Intn(4) == 0 {
		letters = 256
	}
	b := []byte{}
	for len(b) < size {
		if many := dice.Intn(400); len(b) > 0 && dice.Intn(3) == 0 {
			from := dice.Intn(len(b))
			for k := range many {
				b = append(b, b[from+k])
			}
		} else {
			for range many / 20 {
				b = append(b, byte(dice.Intn(letters)))
			}
		}
	}
	return b[:size]
}

// anyTokens is a row of tokens most of which fit.
func anyTokens(dice *rand.Rand) []api.Token {
	var l []api.Token
	size := 0
	for range dice.Intn(40) {
		t := api.Token{Byte: byte(dice.Intn(256))}
		if size > 0 && dice.Intn(2) == 0 {
			t = api.Token{Len: 3 + dice.Intn(256), Back: 1 + dice.Intn(size)}
		}
		l = append(l, t)
		size += max(1, t.Len)
	}
	return l
}

// spoil makes one number of a token another one.
func spoil(dice *rand.Rand, l []api.Token) {
	t := &l[dice.Intn(len(l))]
	switch dice.Intn(3) {
	case 0:
		t.Byte = byte(dice.Intn(3))
	case 1:
		t.Len = dice.Intn(264) - 2
	default:
		t.Back = dice.Intn(1000) - 100
	}
}

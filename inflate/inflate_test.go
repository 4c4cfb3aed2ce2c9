package inflate_test

import (
	"bytes"
	"compress/flate"
	"io"
	"math"
	"math/rand"
	"slices"
	"strings"
	"testing"

	"theodolite/api"
	"theodolite/inflate"
)

const most = 1 << 20

// The fixed codes.
var (
	lit = codes(fixedLengths)
	far = codes(fixedFars)
)

// What blocks begin with: those that another one comes behind, and the last one.
const (
	storedHead = "000"
	fixedHead  = "010"
	otherHead  = "001" // a described one's
	lastStored = "100"
	lastFixed  = "110"
	lastOther  = "101"
)

// stored is a stored block behind its head.
func stored(head string, b []byte) string {
	return aligned(head, "0") + group(len(b), 16) + group(65535-len(b), 16) + unpack(b)
}

// count is a described block's three counts: of literals' lengths, of distances', of lengths' lengths.
func count(lits, fars, short int) string {
	return group(lits-257, 5) + group(fars-1, 5) + group(short-4, 4)
}

// short has the lengths of the lengths' code, in their order.
func short(l [19]byte, many int) string {
	var row strings.Builder
	for _, s := range order[:many] {
		row.WriteString(group(int(l[s]), 3))
	}
	return row.String()
}

// Lengths of the lengths' code: by even each length has a code of four bits, by anyOf all its symbols have codes.
var (
	even  = [19]byte{4, 4, 4, 4, 4, 4, 4, 4, 4, 4, 4, 4, 4, 4, 4, 4}
	anyOf = [19]byte{4, 4, 4, 4, 4, 4, 4, 4, 4, 4, 4, 4, 4, 5, 5, 5, 5, 5, 5}
)

// described is a described block's row up to its symbols: the lengths stand there one by one.
func described(lits, fars []byte) string {
	var row strings.Builder
	row.WriteString(count(len(lits), len(fars), 19) + short(even, 19))
	for _, l := range slices.Concat(lits, fars) {
		row.WriteString(code(int(l), 4))
	}
	return row.String()
}

// ending is a row that ends where a byte does: a fixed block stands ahead of it, with as many literals of nine bits as that takes.
func ending(row string) string {
	ahead := fixedHead
	for (len(ahead)+len(lit[256])+len(row))%8 != 0 {
		ahead += lit[200]
	}
	return ahead + lit[256] + row
}

// lengths are so many, of which these symbols have these ones.
func lengths(many int, of map[int]byte) []byte {
	l := make([]byte, many)
	for s, n := range of {
		l[s] = n
	}
	return l
}

// deflated is a text's stream, by another writer.
func deflated(t *testing.T, level int, parts ...[]byte) []byte {
	t.Helper()
	var out bytes.Buffer
	w, err := flate.NewWriter(&out, level)
	if err != nil {
		t.Fatal(err)
	}
	for k, b := range parts {
		if w.Write(b); k < len(parts)-1 {
			w.Flush()
		}
	}
	w.Close()
	return out.Bytes()
}

// told is what another reader is told by a stream, and how many bytes it has.
func told(b []byte) ([]byte, int, error) {
	r := bytes.NewReader(b)
	text, err := io.ReadAll(flate.NewReader(r))
	return text, len(b) - r.Len(), err
}

// texts are of all kinds.
func texts() [][]byte {
	dice := rand.New(rand.NewSource(1))
	noise, few, words := make([]byte, 70000), make([]byte, 100000), []byte{}
	dice.Read(noise)
	for k := range few {
		few[k] = "abcd"[min(dice.Intn(4), dice.Intn(4))]
	}
	for len(words) < 200000 {
		at := dice.Intn(len(noise) - 300)
		words = append(words, noise[at:at+1+dice.Intn(299)]...)
	}
	return [][]byte{nil, {0}, []byte("a"), []byte("aaaaa"), []byte("abcabcd"), noise[:1], noise[:300], noise[:65535], noise[:65536], noise, few, words, make([]byte, 300000), bytes.Repeat([]byte("theodolite "), 9000)}
}

// reads holds a reading against what is to come of it.
func reads(t *testing.T, what string, b []byte, limit int, text []byte, many int, e api.Errno) {
	t.Helper()
	got, n, err := inflate.Read(b, limit)
	if !bytes.Equal(got, text) || n != many || err != e {
		t.Errorf("%s, limit %d: %d bytes of %d, error %d, not %d of %d, %d", what, limit, len(got), n, err, len(text), many, e)
	}
}

// P6.1: the chapter's examples.
func TestExamples(t *testing.T) {
	reads(t, "no symbols", []byte{3, 0}, 0, nil, 2, api.OK)
	reads(t, "stored a", []byte{1, 1, 0, 254, 255, 97}, 1, []byte("a"), 6, api.OK)
	reads(t, "fixed a", []byte{75, 4, 0}, 1, []byte("a"), 3, api.OK)
	reads(t, "kind 3", []byte{7}, 1, nil, 0, api.ErrBlock)
	if n, c := inflate.Base(265); n != 11 || c != 1 {
		t.Errorf("Base(265): %d, %d", n, c)
	}
	if n, c := inflate.Far(4); n != 5 || c != 1 {
		t.Errorf("Far(4): %d, %d", n, c)
	}
}

// P6.1, P6.4: texts that another writer has compressed, by any level, with any limit, whatever stands behind.
func TestOthersStreams(t *testing.T) {
	for _, text := range texts() {
		for level := flate.HuffmanOnly; level <= flate.BestCompression; level++ {
			b := deflated(t, level, text[:len(text)/3], text[len(text)/3:len(text)/2], text[len(text)/2:])
			if level%2 == 0 {
				b = deflated(t, level, text)
			}
			reads(t, "a text", b, most, text, len(b), api.OK)
			reads(t, "a text", b, len(text), text, len(b), api.OK)
			if len(text) > 0 {
				reads(t, "a text", b, len(text)-1, nil, 0, api.ErrLimit)
				reads(t, "a text", b, 0, nil, 0, api.ErrLimit)
			}
			for _, behind := range []string{"\x00", "\xff", "\x03\x00", strings.Repeat("\xaa", 300)} {
				reads(t, "with something behind", slices.Concat(b, []byte(behind)), len(text), text, len(b), api.OK)
			}
		}
	}
}

// P6.1: wherever the bits end too early.
func TestCutStreams(t *testing.T) {
	for _, text := range texts() {
		for _, level := range []int{flate.HuffmanOnly, flate.NoCompression, 1, 6} {
			b := deflated(t, level, text)
			step := 1 + len(b)/60
			for n := 0; n < len(b); n += step {
				reads(t, "a cut stream", b[:n], most, nil, 0, api.ErrEnd)
			}
			reads(t, "a cut stream", b[:len(b)-1], most, nil, 0, api.ErrEnd)
		}
	}
}

// P6.1: limits that may not be are told ahead of all else.
func TestLimits(t *testing.T) {
	for _, b := range [][]byte{nil, {}, {3, 0}, {7}, {75, 4, 0}, {255, 255, 255}} {
		for _, limit := range []int{-1, -2, math.MinInt, most + 1, most + 2, 1 << 32, 1 << 62, math.MaxInt} {
			reads(t, "such a limit", b, limit, nil, 0, api.ErrArg)
		}
	}
	reads(t, "nothing", nil, 0, nil, 0, api.ErrEnd)
	reads(t, "nothing", []byte{}, most, nil, 0, api.ErrEnd)
	full := bytes.Repeat([]byte{7}, most)
	for _, level := range []int{flate.NoCompression, flate.HuffmanOnly, 9} {
		b := deflated(t, level, full)
		reads(t, "as much as may be", b, most, full, len(b), api.OK)
		reads(t, "as much as may be", b, most-1, nil, 0, api.ErrLimit)
		reads(t, "more", deflated(t, level, append(full, 7)), most, nil, 0, api.ErrLimit)
	}
}

// trial is a row, what it tells, and its error.
type trial struct {
	what string
	row  string
	text string
	e    api.Errno
}

// try reads each trial with a limit; of those that are right, how many bytes the row has is told, whatever stands behind.
func try(t *testing.T, limit int, l []trial) {
	t.Helper()
	for _, x := range l {
		b, many := pack(x.row), 0
		if x.e == api.OK {
			many = len(b)
			reads(t, x.what+", with something behind", append(pack(aligned(x.row, "1")), 255, 0), limit, []byte(x.text), many, x.e)
		}
		reads(t, x.what, b, limit, []byte(x.text), many, x.e)
		text, n, e := inflated(b, limit)
		if string(text) != x.text || n != many || e != x.e {
			t.Errorf("%s: the words have it as %q of %d, error %d", x.what, text, n, e)
		}
	}
}

// P6.1: blocks one behind the other, of any kinds, and what stored ones may be.
func TestBlocks(t *testing.T) {
	one := described(lengths(257, map[int]byte{256: 1}), []byte{0}) + "0"
	try(t, 10, []trial{
		{"stored", stored(lastStored, []byte("abc")), "abc", api.OK},
		{"stored, nothing", stored(lastStored, nil), "", api.OK},
		{"stored, other bits ahead", aligned(lastStored, "1") + stored("", []byte("a")), "a", api.OK},
		{"stored, twice", stored(storedHead, []byte("ab")) + stored(lastStored, []byte("cd")), "abcd", api.OK},
		{"fixed, then stored", stored(fixedHead+lit['x']+lit[256]+lastStored, []byte("y")), "xy", api.OK},
		{"stored where a byte begins", stored(ending(lastStored), []byte("y")), "\xc8\xc8\xc8y", api.OK},
		{"fixed, twice", fixedHead + lit['x'] + lit[256] + lastFixed + lit['y'] + lit[200] + lit[256], "xy\xc8", api.OK},
		{"described, then fixed", otherHead + one + lastFixed + lit['q'] + lit[256], "q", api.OK},
		{"described, then described", otherHead + one + lastOther + one, "", api.OK},
		{"fixed, then kind 3", fixedHead + lit[256] + "011", "", api.ErrBlock},
		{"kind 3, the last one", "111", "", api.ErrBlock},
		{"a last one, and more", lastFixed + lit[256] + "111", "", api.OK},
		{"no last one", fixedHead + lit[256] + strings.Repeat("0", 6), "", api.ErrEnd},
	})
	for kind, want := range []api.Errno{api.ErrEnd, api.ErrEnd, api.ErrEnd, api.ErrBlock} {
		reads(t, "nothing behind a kind", pack(ending("1"+group(kind, 2))), most, nil, 0, want)
		reads(t, "half a kind", pack(ending("1"+group(kind, 1))), most, nil, 0, api.ErrEnd)
	}
	reads(t, "no kind", pack(ending("1")), most, nil, 0, api.ErrEnd)
	reads(t, "no block", pack(ending("")), most, nil, 0, api.ErrEnd)
}

// P6.1: what stored blocks may not be, and which error comes first.
func TestStoredRefused(t *testing.T) {
	head := aligned(lastStored, "0")
	try(t, 3, []trial{
		{"no count", head, "", api.ErrEnd},
		{"half a count", head + group(1, 8), "", api.ErrEnd},
		{"no contrary", head + group(1, 16), "", api.ErrEnd},
		{"half a contrary", head + group(1, 16) + group(0, 8), "", api.ErrEnd},
		{"a contrary of one bit less", head + group(1, 16) + group(65532, 16) + unpack([]byte("a")), "", api.ErrStored},
		{"no contrary, but the count", head + group(1, 16) + group(1, 16) + unpack([]byte("a")), "", api.ErrStored},
		{"a wrong contrary, too many bytes, too few", head + group(9, 16) + group(9, 16), "", api.ErrStored},
		{"the highest bits unlike", head + group(1, 16) + group(0x7ffe, 16) + unpack([]byte("a")), "", api.ErrStored},
		{"too many bytes for the limit, and too few", head + group(4, 16) + group(65531, 16), "", api.ErrLimit},
		{"too many bytes for the limit", head + group(4, 16) + group(65531, 16) + unpack([]byte("abcd")), "", api.ErrLimit},
		{"as many bytes as may be, and too few", head + group(3, 16) + group(65532, 16) + unpack([]byte("ab")), "", api.ErrEnd},
		{"no bytes", head + group(1, 16) + group(65534, 16), "", api.ErrEnd},
		{"too many with those ahead", stored(storedHead, []byte("ab")) + stored(lastStored, []byte("cd")), "", api.ErrLimit},
		{"none behind as many as may be", stored(storedHead, []byte("abc")) + stored(lastStored, nil), "abc", api.OK},
	})
}

// P6.1, P6.2: bytes that are told again, and what may not be among symbols.
func TestSymbols(t *testing.T) {
	abc := lastFixed + lit['a'] + lit['b'] + lit['c']
	try(t, 300, []trial{
		{"three from three back", abc + lit[257] + far[2] + lit[256], "abcabc", api.OK},
		{"four from one back", abc + lit[258] + far[0] + lit[256], "abccccc", api.OK},
		{"ten from two back", abc + lit[264] + far[1] + lit[256], "abc" + "bcbcbcbcbc", api.OK},
		{"twelve from three back", abc + lit[265] + "1" + far[2] + lit[256], "abcabcabcabcabc", api.OK},
		{"258, by 285", abc + lit[285] + far[0] + lit[256], "abc" + strings.Repeat("c", 258), api.OK},
		{"258, by 284", abc + lit[284] + group(31, 5) + far[0] + lit[256], "abc" + strings.Repeat("c", 258), api.OK},
		{"five back", abc + lit['d'] + lit['e'] + lit[257] + far[4] + "0" + lit[256], "abcdeabc", api.OK},
		{"six back of five", abc + lit['d'] + lit['e'] + lit[257] + far[4] + "1" + lit[256], "", api.ErrBack},
		{"four back of three", abc + lit[257] + far[3] + lit[256], "", api.ErrBack},
		{"one back of none", lastFixed + lit[257] + far[0] + lit[256], "", api.ErrBack},
		{"over blocks", stored(storedHead, []byte("xyz")) + lastFixed + lit[257] + far[2] + lit[256], "xyzxyz", api.OK},
		{"a length's 286", abc + lit[286] + far[0] + lit[256], "", api.ErrCode},
		{"a length's 287", abc + lit[287] + far[0] + lit[256], "", api.ErrCode},
		{"a distance's 30", abc + lit[257] + far[30] + lit[256], "", api.ErrCode},
		{"a distance's 31", abc + lit[257] + far[31] + lit[256], "", api.ErrCode},
	})
	try(t, 5, []trial{
		{"as much as may be", abc + lit['d'] + lit['e'] + lit[256], "abcde", api.OK},
		{"a byte too many", abc + lit['d'] + lit['e'] + lit['f'] + lit[256], "", api.ErrLimit},
		{"told again too often", abc + lit[257] + far[0] + lit[256], "", api.ErrLimit},
		{"too far back ahead of the limit", abc + lit[257] + far[3] + lit[256], "", api.ErrBack},
		{"a distance's 30 ahead of the limit", abc + lit[257] + far[30], "", api.ErrCode},
		{"the limit ahead of the end", abc + lit[285] + far[2], "", api.ErrLimit},
		{"the limit behind the distance's bits", abc + lit[285] + far[29] + group(0, 1), "", api.ErrEnd},
	})
	fives := strings.Repeat(lit['a'], 2) + lit[257]
	try(t, 5, []trial{{"just so many", lastFixed + fives + far[0] + lit[256], "aaaaa", api.OK}})
	try(t, 4, []trial{{"one fewer", lastFixed + fives + far[0] + lit[256], "", api.ErrLimit}})
}

// P6.1: where bits end within what belongs to a length; what is ahead of them is judged, what isn't there is not.
func TestSymbolsEnd(t *testing.T) {
	for _, s := range []int{257, 264, 265, 273, 284, 285} {
		for _, d := range []int{0, 3, 4, 10, 29} {
			e := lengthBits[s-257]
			row := lit[s] + group(0, e) + far[d]
			for cut := range len(row) + farBits[d] {
				part := (row + group(0, farBits[d]))[:cut]
				reads(t, "a length that is cut", pack(ending(lastFixed+part)), most, nil, 0, api.ErrEnd)
			}
		}
	}
}

// P6.1: each length and each distance that may be.
func TestEachLengthAndDistance(t *testing.T) {
	text := make([]byte, 40000)
	rand.New(rand.NewSource(2)).Read(text)
	for s := 257; s <= 285; s++ {
		for more := range 1 << lengthBits[s-257] {
			length := lengthLeast[s-257] + more
			row := stored(storedHead, text[:300]) + lastFixed + lit[s] + group(more, lengthBits[s-257]) + far[16] + group(0, 7) + lit[256]
			reads(t, "a length", pack(row), most, slices.Concat(text[:300], text[43:300], text[43:300])[:300+length], len(pack(row)), api.OK)
		}
	}
	for d := range 30 {
		c := farBits[d]
		for _, more := range []int{0, 1 & (1<<c - 1), 1<<c/2 | 1&(1<<c-1), 1<<c - 1} {
			back := farLeast[d] + more
			end := lastFixed + lit[258] + far[d] + group(more, c) + lit[256]
			b := slices.Concat(pack(stored(storedHead, text[:back])), pack(end))
			want := slices.Clone(text[:back])
			for range 4 {
				want = append(want, want[len(want)-back])
			}
			reads(t, "a distance", b, most, want, len(b), api.OK)
			b = slices.Concat(pack(stored(storedHead, text[:back-1])), pack(end))
			reads(t, "a distance of one more than was told", b, most, nil, 0, api.ErrBack)
		}
	}
}

// P6.1: codes that a block describes, lone and bare ones too.
func TestDescribed(t *testing.T) {
	ab := lengths(257, map[int]byte{'a': 1, 'b': 2, 256: 2})
	again := lengths(286, map[int]byte{'a': 1, 256: 2, 258: 3, 285: 3})
	try(t, 300, []trial{
		{"three literals", lastOther + described(ab, []byte{0}) + "0" + "0" + "10" + "11", "aab", api.OK},
		{"a lone one", lastOther + described(lengths(257, map[int]byte{256: 1}), []byte{0}) + "0", "", api.OK},
		{"a lone one's other bit", lastOther + described(lengths(257, map[int]byte{256: 1}), []byte{0}) + "1", "", api.ErrCode},
		{"a lone distance", lastOther + described(again, []byte{1}) + "0" + "110" + "0" + "10", "aaaaa", api.OK},
		{"a lone distance, not the first", lastOther + described(again, []byte{0, 1}) + "0" + "0" + "110" + "0" + "10", "aaaaaa", api.OK},
		{"a lone distance's other bit", lastOther + described(again, []byte{1}) + "0" + "110" + "1" + "10", "", api.ErrCode},
		{"a bare distance", lastOther + described(again, []byte{0}) + "0" + "110" + "0" + "10", "", api.ErrCode},
		{"a bare distance that isn't asked", lastOther + described(again, []byte{0}) + "0" + "10", "a", api.OK},
		{"all distances", lastOther + described(again, append([]byte{4, 4, 5, 5}, bytes.Repeat([]byte{5}, 26)...)) + "0" + "111" + "0000" + "10", "a" + strings.Repeat("a", 258), api.OK},
		{"codes of 15 bits", lastOther + described(lengths(272, map[int]byte{0: 1, 1: 2, 2: 3, 3: 4, 4: 5, 5: 6, 6: 7, 7: 8, 8: 9, 9: 10, 10: 11, 11: 12, 12: 13, 13: 14, 14: 15, 256: 15}), []byte{0}) + strings.Repeat("1", 14) + "0" + "0" + strings.Repeat("1", 15), "\x0e\x00", api.OK},
	})
}

// P6.2: what a described block's head may not be, and which error comes first.
func TestDescribedRefused(t *testing.T) {
	end, ab := lengths(257, map[int]byte{256: 1}), lengths(257, map[int]byte{'a': 1, 256: 1})
	list := func(lits, fars []byte) string { return lastOther + described(lits, fars) + strings.Repeat("0", 40) }
	try(t, 300, []trial{
		{"286 literals, 30 distances", lastOther + described(lengths(286, map[int]byte{256: 1}), make([]byte, 30)) + "0", "", api.OK},
		{"287 literals", list(lengths(287, map[int]byte{256: 1}), []byte{0}), "", api.ErrCode},
		{"288 literals", list(lengths(288, map[int]byte{256: 1}), []byte{0}), "", api.ErrCode},
		{"31 distances", list(end, make([]byte, 31)), "", api.ErrCode},
		{"32 distances", list(end, make([]byte, 32)), "", api.ErrCode},
		{"no third count", lastOther + group(31, 5), "", api.ErrEnd},
		{"counts alone", lastOther + count(288, 32, 4) + "0000000", "", api.ErrCode},
		{"256 has none", list(lengths(257, map[int]byte{'a': 1, 'b': 1}), []byte{0}), "", api.ErrCode},
		{"no lengths at all", list(lengths(257, nil), []byte{0}), "", api.ErrCode},
		{"256 has one of two bits, alone", list(lengths(257, map[int]byte{256: 2}), []byte{0}), "", api.ErrCode},
		{"literals that take too much", list(lengths(257, map[int]byte{'a': 1, 'b': 1, 256: 1}), []byte{0}), "", api.ErrCode},
		{"literals that take too little", list(lengths(257, map[int]byte{'a': 1, 256: 2}), []byte{0}), "", api.ErrCode},
		{"distances that take too much", list(ab, []byte{1, 1, 1}), "", api.ErrCode},
		{"distances that take too little", list(ab, []byte{1, 2}), "", api.ErrCode},
		{"a distance of two bits, alone", list(ab, []byte{2}), "", api.ErrCode},
		{"the lengths' code bare", lastOther + count(257, 1, 4) + strings.Repeat("0", 12) + strings.Repeat("0", 40), "", api.ErrCode},
		{"the lengths' code lone", lastOther + count(257, 1, 5) + short([19]byte{8: 1}, 5) + strings.Repeat("0", 400), "", api.ErrCode},
		{"the lengths' code takes too little", lastOther + count(257, 1, 5) + short([19]byte{0: 1, 8: 2}, 5) + strings.Repeat("0", 400), "", api.ErrCode},
		{"the lengths' code takes too much", lastOther + count(257, 1, 5) + short([19]byte{0: 1, 8: 1, 18: 1}, 5) + strings.Repeat("0", 400), "", api.ErrCode},
	})
}

// P6.2: the lengths' code is judged where its lengths end, though nothing stands behind them.
func TestLengthsCodeRefused(t *testing.T) {
	for _, s := range []int{0, 8, 16, 17, 18} {
		for _, length := range []byte{1, 2, 7} {
			var l [19]byte
			l[s] = length
			row := lastOther + count(257, 1, 5) + short(l, 5)
			reads(t, "a lengths' code of one", pack(ending(row)), most, nil, 0, api.ErrCode)
			reads(t, "a lengths' code of one, cut", pack(ending(row[:len(row)-1])), most, nil, 0, api.ErrEnd)
		}
	}
}

// P6.1, P6.2: lengths that are told by 16, 17 and 18.
func TestRuns(t *testing.T) {
	c := codes(anyOf[:])
	head := func(lits, fars int) string { return lastOther + count(lits, fars, 19) + short(anyOf, 19) }
	again := func(n int) string { return c[16] + group(n-3, 2) }
	few := func(n int) string { return c[17] + group(n-3, 3) }
	many := func(n int) string { return c[18] + group(n-11, 7) }
	try(t, 300, []trial{
		{"zeros by 18", head(257, 1) + many(138) + many(118) + c[1] + c[0] + "0", "", api.OK},
		{"zeros by 17", head(257, 1) + many(138) + many(100) + few(10) + few(5) + few(3) + c[1] + c[0] + "0", "", api.OK},
		{"16 three times", head(257, 1) + c[3] + again(3) + many(138) + many(114) + c[1] + c[0] + "100" + "111" + "0", "\x00\x03", api.OK},
		{"16 six times", head(257, 1) + c[3] + again(6) + many(138) + many(111) + c[3] + c[0] + "000" + "111", "\x00", api.OK},
		{"16 of zeros behind 18", head(258, 1) + c[1] + many(138) + few(8) + many(100) + again(3) + again(3) + again(3) + c[1] + c[0] + c[0] + "0" + "1", "\x00", api.OK},
		{"16 at the border of distances", head(257, 4) + many(138) + many(115) + c[2] + again(3) + again(4) + "00" + "11", "\xfd", api.OK},
		{"18 over the border", head(257+5, 10) + many(138) + many(118) + c[1] + many(15) + "0", "", api.OK},
		{"16 at the beginning", head(257, 1) + c[16] + strings.Repeat("0", 90), "", api.ErrCode},
		{"16 one too many", head(257, 1) + many(138) + many(117) + c[1] + again(3) + strings.Repeat("0", 40), "", api.ErrCode},
		{"17 one too many", head(257, 1) + many(138) + many(118) + few(3) + strings.Repeat("0", 40), "", api.ErrCode},
		{"18 one too many", head(257, 1) + many(138) + many(121) + strings.Repeat("0", 40), "", api.ErrCode},
		{"just as many, but 256 has none", head(257, 1) + many(138) + many(120) + strings.Repeat("0", 40), "", api.ErrCode},
	})
}

// P6.2: 16's bits aren't read where nothing is ahead of it; those of one that makes too many lengths are.
func TestRunsEnd(t *testing.T) {
	c := codes(anyOf[:])
	over := c[18] + group(127, 7) + c[18] + group(107, 7) // 256 of 258 lengths
	for _, x := range []struct {
		what, row string
		e         api.Errno
	}{
		{"16 at the beginning, its bits aren't there", c[16], api.ErrCode},
		{"17 at the beginning, its bits aren't there", c[17], api.ErrEnd},
		{"18 at the beginning, its bits aren't there", c[18], api.ErrEnd},
		{"18 at the beginning, one of its bits isn't there", c[18] + "111111", api.ErrEnd},
		{"16 of too many, its bits aren't there", over + c[16], api.ErrEnd},
		{"16 of too many, one of its bits isn't there", over + c[16] + "1", api.ErrEnd},
		{"16 of too many, its bits are there", over + c[16] + "00", api.ErrCode},
		{"17 of too many, one of its bits isn't there", over + c[17] + "00", api.ErrEnd},
		{"17 of too many, its bits are there", over + c[17] + "000", api.ErrCode},
		{"18 of too many, one of its bits isn't there", over + c[18] + "000000", api.ErrEnd},
		{"18 of too many, its bits are there", over + c[18] + "0000000", api.ErrCode},
	} {
		b := pack(ending(lastOther + count(257, 1, 19) + short(anyOf, 19) + x.row))
		reads(t, x.what, b, most, nil, 0, x.e)
		if _, _, e := inflated(b, most); e != x.e {
			t.Errorf("%s: the words have it as error %d", x.what, e)
		}
	}
}

// P6.3: RFC 1951's tables, and symbols that there aren't.
func TestTables(t *testing.T) {
	for k, least := range lengthLeast {
		if n, c := inflate.Base(257 + k); n != least || c != lengthBits[k] {
			t.Errorf("Base(%d): %d, %d", 257+k, n, c)
		}
	}
	for d, least := range farLeast {
		if n, c := inflate.Far(d); n != least || c != farBits[d] {
			t.Errorf("Far(%d): %d, %d", d, n, c)
		}
	}
	for _, s := range []int{256, 255, 0, 1, -1, -257, 286, 287, 288, 1 << 32, 1<<32 + 257, math.MinInt, math.MinInt + 257, math.MaxInt} {
		if n, c := inflate.Base(s); n != 0 || c != 0 {
			t.Errorf("Base(%d): %d, %d", s, n, c)
		}
	}
	for _, d := range []int{-1, 30, 31, 32, 257, -30, 1 << 32, math.MinInt, math.MaxInt} {
		if n, c := inflate.Far(d); n != 0 || c != 0 {
			t.Errorf("Far(%d): %d, %d", d, n, c)
		}
	}
}

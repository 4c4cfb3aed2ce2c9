package inflate_test

import (
	"bytes"
	"math/rand"
	"slices"
	"strings"
	"testing"

	"theodolite/api"
	"theodolite/inflate"
)

// full are lengths of a full set of so many symbols, none above most.
func full(dice *rand.Rand, many int, most byte) []byte {
	l := []byte{1, 1}
	for len(l) < many {
		k := dice.Intn(len(l))
		if dice.Intn(3) == 0 {
			k = len(l) - 1
		}
		if l[k] < most {
			l[k]++
			l = append(l, l[k])
		}
	}
	dice.Shuffle(len(l), func(i, k int) { l[i], l[k] = l[k], l[i] })
	return l
}

// page is a stream that is put together at random, and what it tells.
type page struct {
	dice *rand.Rand
	row  string
	told []byte
}

// block puts a block behind.
func (p *page) block(last int) {
	p.row += group(last, 1)
	switch p.dice.Intn(4) {
	case 0:
		b := make([]byte, p.dice.Intn(20))
		p.dice.Read(b)
		p.row = stored(p.row+"00", b)
		p.told = append(p.told, b...)
	case 1:
		p.row += group(1, 2)
		p.symbols(lit, far)
	default:
		p.row += group(2, 2)
		p.described()
	}
}

// described puts codes behind, and symbols by them.
func (p *page) described() {
	lits, fars := make([]byte, 257+p.dice.Intn(30)), make([]byte, 1+p.dice.Intn(30))
	l := full(p.dice, 2+p.dice.Intn(min(40, len(lits)-1)), 15)
	for k, s := range p.dice.Perm(len(lits))[:len(l)] {
		lits[s] = l[k]
	}
	if lits[256] == 0 {
		s := slices.Index(lits, l[0])
		lits[s], lits[256] = 0, lits[s]
	}
	switch many := p.dice.Intn(len(fars) + 1); many {
	case 0:
	case 1:
		fars[p.dice.Intn(len(fars))] = 1
	default:
		copy(fars, full(p.dice, many, 15))
		p.dice.Shuffle(len(fars), func(i, k int) { fars[i], fars[k] = fars[k], fars[i] })
	}
	p.row += count(len(lits), len(fars), 19)
	p.lengths(slices.Concat(lits, fars))
	p.symbols(codes(lits), codes(fars))
}

// lengths puts a code behind, and lengths by it, with runs where there may be such.
func (p *page) lengths(l []byte) {
	by := [19]byte(full(p.dice, 19, 7))
	c := codes(by[:])
	p.row += short(by, 19)
	for k := 0; k < len(l); {
		run := 1
		for k+run < len(l) && l[k+run] == l[k] {
			run++
		}
		switch n := run - p.dice.Intn(2); {
		case p.dice.Intn(6) == 0:
			p.row += c[l[k]]
			k++
		case k > 0 && l[k-1] == l[k] && n >= 3:
			n = min(n, 6)
			p.row += c[16] + group(n-3, 2)
			k += n
		case l[k] == 0 && n >= 11:
			n = min(n, 138)
			p.row += c[18] + group(n-11, 7)
			k += n
		case l[k] == 0 && n >= 3:
			n = min(n, 10)
			p.row += c[17] + group(n-3, 3)
			k += n
		default:
			p.row += c[l[k]]
			k++
		}
	}
}

// symbols puts some behind, by these codes, and the one that ends a block.
func (p *page) symbols(lits, fars []string) {
	for range p.dice.Intn(60) {
		s, d := p.dice.Intn(len(lits)), p.dice.Intn(len(fars))
		switch {
		case lits[s] == "" || s == 256 || s > 285:
		case s < 256:
			p.row += lits[s]
			p.told = append(p.told, byte(s))
		case d < 30 && fars[d] != "":
			more, way := p.dice.Intn(1<<lengthBits[s-257]), p.dice.Intn(1<<farBits[d])
			if back := farLeast[d] + way; back <= len(p.told) && len(p.told) < 2000 {
				p.row += lits[s] + group(more, lengthBits[s-257]) + fars[d] + group(way, farBits[d])
				for range lengthLeast[s-257] + more {
					p.told = append(p.told, p.told[len(p.told)-back])
				}
			}
		}
	}
	p.row += lits[256]
}

// anyPage is a stream of some blocks.
func anyPage(dice *rand.Rand) *page {
	p := &page{dice: dice}
	for range dice.Intn(4) {
		p.block(0)
	}
	p.block(1)
	return p
}

// same holds a reading against the oracle's.
func same(t *testing.T, b []byte, limit int) api.Errno {
	t.Helper()
	text, n, e := inflate.Read(b, limit)
	if text2, n2, e2 := inflated(b, limit); !bytes.Equal(text, text2) || n != n2 || e != e2 || len(text) > limit && limit >= 0 {
		t.Fatalf("% x, limit %d: %d bytes of %d, error %d, not %d of %d, %d", b, limit, len(text), n, e, len(text2), n2, e2)
	}
	return e
}

// P6.1, P6.4: streams of any blocks tell what was put into them, whatever stands behind, another reader the same; limits cut all that is more.
func TestAnyStreams(t *testing.T) {
	dice := rand.New(rand.NewSource(3))
	for range 1500 {
		p := anyPage(dice)
		b := pack(p.row)
		reads(t, "any stream", b, most, p.told, len(b), api.OK)
		reads(t, "any stream", b, len(p.told), p.told, len(b), api.OK)
		if len(p.told) > 0 {
			reads(t, "any stream", b, dice.Intn(len(p.told)), nil, 0, api.ErrLimit)
		}
		behind := make([]byte, dice.Intn(9))
		dice.Read(behind)
		reads(t, "any stream, something behind", append(pack(aligned(p.row, "1")), behind...), len(p.told), p.told, len(b), api.OK)
		if text, n, err := told(b); err != nil || !bytes.Equal(text, p.told) || n != len(b) {
			t.Fatalf("% x: another reader: %v, %d bytes of %d", b, err, len(text), n)
		}
	}
}

// P6.1, P6.2, P6.4: streams some of whose bits are turned, or that are cut, tell just what the chapter's words say of them, each error among it.
func TestWrongStreams(t *testing.T) {
	dice := rand.New(rand.NewSource(4))
	met := map[api.Errno]int{}
	for range 12000 {
		p := anyPage(dice)
		b := pack(p.row)
		for range dice.Intn(3) {
			at := dice.Intn(8 * len(b))
			if dice.Intn(2) == 0 {
				at = dice.Intn(min(8*len(b), 120))
			}
			b[at/8] ^= 1 << (at % 8)
		}
		if dice.Intn(3) == 0 {
			b = b[:dice.Intn(len(b)+1)]
		}
		limit := most
		if dice.Intn(3) == 0 {
			limit = dice.Intn(len(p.told) + 10)
		}
		met[same(t, b, limit)]++
	}
	for _, e := range []api.Errno{api.OK, api.ErrEnd, api.ErrBlock, api.ErrStored, api.ErrCode, api.ErrBack, api.ErrLimit} {
		if met[e] < 20 {
			t.Errorf("error %d came %d times only", e, met[e])
		}
	}
}

// P6.1: any few bytes: all of up to two, and any of some more.
func TestAnyBytes(t *testing.T) {
	for x := range 256 {
		same(t, []byte{byte(x)}, most)
		for y := range 256 {
			same(t, []byte{byte(x), byte(y)}, 1)
		}
	}
	dice := rand.New(rand.NewSource(5))
	for range 20000 {
		b := make([]byte, dice.Intn(40))
		dice.Read(b)
		same(t, b, dice.Intn(300)-2)
	}
}

// P6.1: a long row of short blocks is read within few moments.
func TestManyBlocks(t *testing.T) {
	row := strings.Repeat(fixedHead+lit[256], 40000)
	b := pack(row + row + row + row + row + row + lastFixed + lit['z'] + lit[256])
	reads(t, "fixed blocks", b, 1, []byte("z"), len(b), api.OK)
	row = strings.Repeat(stored(storedHead, nil), 40000)
	b = pack(row + lastFixed + lit['z'] + lit[256])
	reads(t, "stored blocks", b, 1, []byte("z"), len(b), api.OK)
}

// The rules that hold everywhere: what is handed in is neither changed nor kept, an answer is new memory, the same is answered again.
func TestArguments(t *testing.T) {
	for _, row := range []string{stored(lastStored, []byte("abc")), lastFixed + lit['a'] + lit['b'] + lit['c'] + lit[256], stored(storedHead, []byte("ab")) + lastFixed + lit['c'] + lit[256]} {
		room := append(pack(row), 9, 9, 9, 9)
		was := slices.Clone(room)
		b := room[:len(room)-4]
		first, n, e := inflate.Read(b, 3)
		second, n2, e2 := inflate.Read(b, 3)
		if string(first) != "abc" || string(second) != "abc" || n != n2 || e != e2 || !bytes.Equal(room, was) {
			t.Fatalf("%q, %q: %d, %d; %d, %d; % x", first, second, n, n2, e, e2, room)
		}
		copy(first, "xyz")
		first = append(first, "xyz"...)
		if string(second) != "abc" || !bytes.Equal(room, was) || len(first) != 6 {
			t.Errorf("an answer is another one's: %q, % x", second, room)
		}
		clear(room)
		if string(second) != "abc" {
			t.Errorf("what was handed in is kept: %q", second)
		}
	}
}

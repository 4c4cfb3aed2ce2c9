package match_test

import (
	"bytes"
	"math"
	"math/rand"
	"slices"
	"strings"
	"testing"

	"theodolite/api"
	"theodolite/match"
)

const (
	most = 258
	far  = 32768
	room = 1 << 20
)

// finds holds a text's tokens against what is wanted.
func finds(t *testing.T, name, text string, want []api.Token) {
	t.Helper()
	if l := match.Find([]byte(text)); !slices.Equal(l, want) {
		t.Errorf("%s: %v, not %v", name, l, want)
	}
}

// P7.1: the chapter's examples, and texts so short that nothing can be told again.
func TestExamples(t *testing.T) {
	finds(t, "aaaaa", "aaaaa", row(lit("a"), again(4, 1)))
	finds(t, "abcabcd", "abcabcd", row(lit("abc"), again(3, 3), lit("d")))
	finds(t, "ab", "ab", lit("ab"))
	finds(t, "nothing", "", nil)
	finds(t, "aaa", "aaa", lit("aaa"))
	finds(t, "aaaa", "aaaa", row(lit("a"), again(3, 1)))
	finds(t, "abab", "abab", lit("abab"))
	finds(t, "of zeros", "\x00\x00\x00\x00", row(lit("\x00"), again(3, 1)))
	finds(t, "of great bytes", "\xff\xfe\xff\xfe\xff", row(lit("\xff\xfe"), again(3, 2)))
	if l := match.Find(nil); len(l) != 0 {
		t.Errorf("nil: %v", l)
	}
}

// P7.1: the longest is told, of several the nearest, as soon as there are three bytes.
func TestWhichPlace(t *testing.T) {
	finds(t, "nearest", "abcXabcYabc", row(lit("abcX"), again(3, 4), lit("Y"), again(3, 4)))
	finds(t, "longer and farther", "abcdXabcYabcd", row(lit("abcdX"), again(3, 5), lit("Y"), again(4, 9)))
	finds(t, "longer and nearer", "abcXabcdYabcd", row(lit("abcX"), again(3, 4), lit("dY"), again(4, 5)))
	finds(t, "no later one is waited for", "bcdefXabcYabcdef", row(lit("bcdefXabcY"), again(3, 4), again(3, 11)))
	finds(t, "past here", "xababababa", row(lit("xab"), again(7, 2)))
	finds(t, "the middle of what was told again", "abcdeabcdeXcdeabY", row(lit("abcde"), again(5, 5), lit("X"), again(5, 9), lit("Y")))
	finds(t, "the end cuts", "abcdefabcd", row(lit("abcdef"), again(4, 6)))
	finds(t, "two are too few", "abcdefab", lit("abcdefab"))
}

// P7.1: at most 258 bytes count, also where more are the same; what is left of them is told by the same rule.
func TestMostBytes(t *testing.T) {
	for more, behind := range [][]api.Token{nil, lit("a"), lit("aa"), again(3, 1), again(4, 1)} {
		finds(t, "a run", strings.Repeat("a", 1+most+more), row(lit("a"), again(most, 1), behind))
	}
	finds(t, "a run of 257", strings.Repeat("a", most), row(lit("a"), again(most-1, 1)))
	run := strings.Repeat("b", 300)
	finds(t, "the nearest of what counts no more", "x"+run+"c"+"x"+run, row(lit("xb"), again(most, 1), again(41, 1), lit("c"), again(most, 302), again(43, 1)))
}

// P7.1: a place 32768 back is looked at, one that is farther isn't.
func TestFarthest(t *testing.T) {
	zeros := func(many int) string { return strings.Repeat("\x00", many) }
	for _, c := range []struct {
		text string
		want []api.Token
	}{
		{"abcd" + zeros(far-4) + "abcd", again(4, far)},
		{"abcd" + zeros(far-3) + "abcd", lit("abcd")},
		{"abcd" + zeros(far-4) + "Xbcd", row(lit("X"), again(3, far))},
		{"abcd" + zeros(far-3) + "Xbcd", lit("Xbcd")},
		{"Xbcd" + zeros(far-4) + "abcd", row(lit("a"), again(3, far))},
		{"abcde" + zeros(far-20) + "abcX" + strings.Repeat("\x01", 12) + "abcde", row(again(3, 16), lit("de"))},
		{"abcde" + zeros(far-21) + "abcX" + strings.Repeat("\x01", 12) + "abcde", again(5, far)},
	} {
		l := match.Find([]byte(c.text))
		if len(l) < len(c.want) || !slices.Equal(l[len(l)-len(c.want):], c.want) {
			t.Errorf("%q: the last are %v, not %v", c.text[len(c.text)-20:], l[max(0, len(l)-6):], c.want)
		}
	}
}

// holds tells whether a text's tokens are those of the chapter's words, and tell the text.
func holds(t *testing.T, b []byte) {
	t.Helper()
	l := match.Find(b)
	if want := found(b); !slices.Equal(l, want) {
		t.Fatalf("%q: %v, not %v", b, l, want)
	}
	if text, ok := match.Tell(l); !ok || !bytes.Equal(text, b) {
		t.Fatalf("%q: told as %q, %v", b, text, ok)
	}
}

// P7.1, P7.3: all short texts of two letters and of three have the tokens that each place ahead, looked at, gives them, and these tell the text.
func TestShortTexts(t *testing.T) {
	for letters, most := range map[int]int{2: 12, 3: 8} {
		for size := range most + 1 {
			many := 1
			for range size {
				many *= letters
			}
			for n := range many {
				b := make([]byte, size)
				for k := range b {
					b[k], n = byte('a'+n%letters), n/letters
				}
				holds(t, b)
			}
		}
	}
}

// P7.1, P7.3: likewise any texts, short and long ones, some beyond the farthest place.
func TestAnyTexts(t *testing.T) {
	dice := rand.New(rand.NewSource(1))
	for range 600 {
		holds(t, anyText(dice, dice.Intn(1500)))
	}
	for range 3 {
		holds(t, anyText(dice, 34000+dice.Intn(1000)))
	}
}

// P7.3: of no token of a long text there is a longer one, nor a nearer one as long; and what is a byte could be no other.
func TestNoLonger(t *testing.T) {
	dice := rand.New(rand.NewSource(2))
	b := anyText(dice, 200000)
	l := match.Find(b)
	if text, ok := match.Tell(l); !ok || !bytes.Equal(text, b) {
		t.Fatal("the tokens don't tell the text")
	}
	step := len(l)/150 + 1
	here := 0
	for k, token := range l {
		for back := 1; k%step == 0 && back <= min(here, far); back++ {
			if n := alike(b, here-back, here); n >= 3 && (n > token.Len || n == token.Len && back < token.Back) {
				t.Fatalf("at %d: %d from %d back, not %v", here, n, back, token)
			}
		}
		here += max(1, token.Len)
	}
}

// P7.1: long texts in which the same few bytes stand again and again end within few moments, and are told again where they have room.
func TestLongTexts(t *testing.T) {
	dice := rand.New(rand.NewSource(3))
	texts := map[string][]byte{"zeros": make([]byte, room), "bits": make([]byte, room), "any bytes": make([]byte, room)}
	dice.Read(texts["any bytes"])
	for k := range texts["bits"] {
		texts["bits"][k] = byte(dice.Intn(2))
	}
	var runs []byte
	for len(runs) < room {
		runs = append(runs, bytes.Repeat([]byte{byte(dice.Intn(2))}, 1+dice.Intn(250))...)
	}
	texts["runs"] = runs[:room]
	for name, b := range texts {
		if text, ok := match.Tell(match.Find(b)); !ok || !bytes.Equal(text, b) {
			t.Errorf("%s: the tokens don't tell the text", name)
		}
	}
	b := make([]byte, room+1)
	if l := match.Find(b); len(l) != 1+room/most+1 {
		t.Errorf("%d tokens of a long run", len(l))
	} else if text, ok := match.Tell(l); ok || len(text) > 0 {
		t.Errorf("%d bytes told of too many", len(text))
	}
}

// P7.1: what tokens tell, byte by byte, also what they told themselves.
func TestTell(t *testing.T) {
	for _, c := range []struct {
		l    []api.Token
		want string
	}{
		{nil, ""},
		{lit("\x00a\xff"), "\x00a\xff"},
		{row(lit("a"), again(4, 1)), "aaaaa"},
		{row(lit("abc"), again(3, 3), lit("d")), "abcabcd"},
		{row(lit("abc"), again(7, 2)), "abcbcbcbcb"},
		{row(lit("abcd"), again(3, 4), again(4, 5)), "abcdabccdab"},
		{row(lit("a"), again(most, 1), again(3, 259)), strings.Repeat("a", 262)},
	} {
		if text, ok := match.Tell(c.l); !ok || string(text) != c.want {
			t.Errorf("%v: %q, %v, not %q", c.l, text, ok, c.want)
		}
	}
	dice := rand.New(rand.NewSource(4))
	for range 2000 {
		tells(t, anyTokens(dice))
	}
}

// tells holds what tokens tell against the chapter's words.
func tells(t *testing.T, l []api.Token) bool {
	t.Helper()
	text, ok := match.Tell(l)
	if want, right := told(l); ok != right || !bytes.Equal(text, want) {
		t.Fatalf("%v: %q, %v, not %q, %v", l, text, ok, want, right)
	}
	return ok
}

// P7.1: a token with one wrong number, wherever it stands, and nothing is told.
func TestWrongTokens(t *testing.T) {
	for _, c := range []struct {
		name  string
		token api.Token
		ok    bool
	}{
		{"all that was told", api.Token{Len: 3, Back: 4}, true},
		{"more than was told", api.Token{Len: 3, Back: 5}, false},
		{"much more", api.Token{Len: 3, Back: math.MaxInt}, false},
		{"below 0", api.Token{Len: 3, Back: -1}, false},
		{"far below 0", api.Token{Len: 3, Back: math.MinInt}, false},
		{"two bytes", api.Token{Len: 2, Back: 1}, false},
		{"no byte", api.Token{Back: 1}, false},
		{"fewer than none", api.Token{Len: -3, Back: 1}, false},
		{"258 bytes", api.Token{Len: most, Back: 1}, true},
		{"259 bytes", api.Token{Len: most + 1, Back: 1}, false},
		{"most bytes", api.Token{Len: math.MaxInt, Back: 1}, false},
		{"a byte of a length", api.Token{Byte: 'a', Len: 3}, false},
		{"a byte of length 1", api.Token{Byte: 'a', Len: 1}, false},
		{"a byte of a length below 0", api.Token{Byte: 'a', Len: -1}, false},
		{"a byte 0 of a length", api.Token{Len: 3}, false},
		{"a byte beside", api.Token{Byte: 1, Len: 3, Back: 1}, false},
		{"a byte 0", api.Token{}, true},
	} {
		for _, behind := range [][]api.Token{nil, lit("z"), again(3, 1)} {
			l := row(lit("abcd"), []api.Token{c.token}, behind)
			if ok := tells(t, l); ok != c.ok {
				t.Errorf("%s: %v", c.name, ok)
			}
		}
	}
	for _, first := range []api.Token{{Len: 3, Back: 1}, {Len: 3, Back: -1}, {Len: 3}} {
		if text, ok := match.Tell([]api.Token{first}); ok || len(text) > 0 {
			t.Errorf("%v first: %q, %v", first, text, ok)
		}
	}
	dice := rand.New(rand.NewSource(5))
	right, wrong := 0, 0
	for range 5000 {
		l := row(lit("abc"), anyTokens(dice))
		spoil(dice, l)
		if tells(t, l) {
			right++
		} else {
			wrong++
		}
	}
	if right < 500 || wrong < 500 {
		t.Errorf("%d right, %d wrong", right, wrong)
	}
}

// P7.1: a token reaches 32768 back, and no farther.
func TestTellFarthest(t *testing.T) {
	head := row(lit("abcd"), slices.Repeat(lit("\x00"), far))
	text, ok := match.Tell(row(head, again(3, far)))
	if !ok || string(text[4+far:]) != "\x00\x00\x00" {
		t.Errorf("%v, %q", ok, text[max(0, len(text)-3):])
	}
	text, ok = match.Tell(row(head[:far], again(3, far)))
	if !ok || string(text[far:]) != "abc" {
		t.Errorf("%v, %q", ok, text[max(0, len(text)-3):])
	}
	if text, ok = match.Tell(row(head, again(3, far+1))); ok || len(text) > 0 {
		t.Errorf("one farther: %v, %d bytes", ok, len(text))
	}
}

// P7.1: 2^20 bytes are told, and not one more, be it a byte or one of many.
func TestTellRoom(t *testing.T) {
	runs := func(many int) []api.Token { return row(lit("a"), slices.Repeat(again(most, 1), many)) }
	// 4064 runs and the first byte leave 63 bytes of 2^20.
	for _, c := range []struct {
		name string
		l    []api.Token
		size int
	}{
		{"a run fills it", row(runs(4064), again(63, 1)), room},
		{"a run is one too many", row(runs(4064), again(64, 1)), 0},
		{"a run of the most", runs(4065), 0},
		{"a byte fills it", row(runs(4064), again(62, 1), lit("a")), room},
		{"a byte is one too many", row(runs(4064), again(63, 1), lit("a")), 0},
		{"all bytes", slices.Repeat(lit("a"), room), room},
		{"all bytes and one", slices.Repeat(lit("a"), room+1), 0},
	} {
		text, ok := match.Tell(c.l)
		if ok != (c.size > 0) || len(text) != c.size || len(bytes.Trim(text, "a")) > 0 {
			t.Errorf("%s: %v, %d bytes", c.name, ok, len(text))
		}
	}
}

// P7.2: tokens of bytes, tokens that tell again, and the bytes of these.
func TestWeigh(t *testing.T) {
	for _, c := range []struct {
		l    []api.Token
		want [3]int
	}{
		{nil, [3]int{}},
		{lit("a"), [3]int{1, 0, 0}},
		{lit("\x00"), [3]int{1, 0, 0}},
		{again(3, 1), [3]int{0, 1, 3}},
		{row(lit("a"), again(4, 1)), [3]int{1, 1, 4}},
		{row(lit("abc"), again(3, 3), lit("d"), again(most, far)), [3]int{4, 2, 261}},
		{match.Find([]byte(strings.Repeat("a", 1000))), [3]int{1, 4, 999}},
	} {
		if a, b, n := match.Weigh(c.l); [3]int{a, b, n} != c.want {
			t.Errorf("%v: %d %d %d, not %v", c.l, a, b, n, c.want)
		}
	}
	dice := rand.New(rand.NewSource(6))
	for range 500 {
		l := anyTokens(dice)
		text, _ := match.Tell(l)
		single, again, many := match.Weigh(l)
		if single+again != len(l) || single+many != len(text) || again*3 > many {
			t.Fatalf("%v: %d, %d, %d of %d bytes", l, single, again, many, len(text))
		}
	}
	if a, b, n := match.Weigh([]api.Token{{Len: 5}, {Len: -2, Back: -7}, {Len: 9, Back: 1 << 40}}); a != 1 || b != 2 || n != 7 {
		t.Errorf("tokens that don't fit: %d %d %d", a, b, n)
	}
}

// The rules that hold everywhere: what is handed in is neither changed nor kept, an answer is new memory, the same is answered again.
func TestArguments(t *testing.T) {
	room := []byte("abcabcd, and more")
	was := slices.Clone(room)
	first, second := match.Find(room[:7]), match.Find(room[:7])
	want := row(lit("abc"), again(3, 3), lit("d"))
	if !slices.Equal(first, want) || !slices.Equal(second, want) || !bytes.Equal(room, was) {
		t.Fatalf("%v, %v, %q", first, second, room)
	}
	clear(first)
	clear(room)
	if !slices.Equal(second, want) {
		t.Errorf("what was handed in, or an answer, is kept: %v", second)
	}
	spare := append(slices.Clone(want), lit("xyz")...)
	tokens := slices.Clone(spare)
	one, ok := match.Tell(spare[:len(want)])
	two, ok2 := match.Tell(spare[:len(want)])
	match.Weigh(spare[:len(want)])
	if !ok || !ok2 || string(one) != "abcabcd" || string(two) != "abcabcd" || !slices.Equal(spare, tokens) {
		t.Fatalf("%q, %q, %v", one, two, spare)
	}
	clear(one)
	clear(spare)
	if string(two) != "abcabcd" {
		t.Errorf("what was handed in, or an answer, is kept: %q", two)
	}
	if text, ok := match.Tell([]api.Token{}); len(text) > 0 || !ok {
		t.Errorf("no tokens: %q, %v", text, ok)
	}
	if l := match.Find([]byte{}); len(l) > 0 {
		t.Errorf("no bytes: %v", l)
	}
}

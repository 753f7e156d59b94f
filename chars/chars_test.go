package chars

import (
	"bytes"
	"encoding/binary"
	"math"
	"math/rand"
	"slices"
	"strconv"
	"strings"
	"testing"

	"foundry/api"
)

func span(from, to, glyph int) api.Range {
	return api.Range{From: from, To: to, Glyph: glyph}
}

// latin is ranges that are formed for 30 glyphs or more: some glyphs have two characters, one has three.
func latin() []api.Range {
	return []api.Range{span(0, 0, 5), span('A', 'Z', 1), span('a', 'f', 3), span('g', 'g', 0), span(0x1f600, 0x1f602, 27), span(1114110, 1114111, 4)}
}

// with is latin, whose third range is r.
func with(r api.Range) []api.Range {
	l := latin()
	l[2] = r
	return l
}

// many is n ranges of one character each, with a gap between some.
func many(n int) []api.Range {
	var l []api.Range
	for i := range n {
		l = append(l, span(i*3/2, i*3/2, i%7))
	}
	return l
}

// formed is what the chapter says, one question after the other, for numbers whose sums an int holds.
func formed(l []api.Range, glyphs int) bool {
	for i, r := range l {
		if r.From < 0 || r.To < r.From || r.To > 1114111 || r.Glyph < 0 || r.Glyph+r.To-r.From >= glyphs {
			return false
		}
		if i > 0 && r.From <= l[i-1].To {
			return false
		}
	}
	return len(l) <= 40
}

// table is what the chapter says of the ranges' bytes, formed or not.
func table(l []api.Range) []byte {
	b := binary.BigEndian.AppendUint16(nil, uint16(len(l)))
	for _, r := range l {
		b = binary.BigEndian.AppendUint32(b, uint32(r.From))
		b = binary.BigEndian.AppendUint32(b, uint32(r.To))
		b = binary.BigEndian.AppendUint16(b, uint16(r.Glyph))
	}
	return b
}

// isTable answers whether b is the bytes of ranges that are formed for that number of glyphs, and of which.
func isTable(b []byte, glyphs int) ([]api.Range, bool) {
	if len(b)%10 != 2 {
		return nil, false
	}
	var l []api.Range
	for at := 2; at < len(b); at += 10 {
		l = append(l, span(int(binary.BigEndian.Uint32(b[at:])), int(binary.BigEndian.Uint32(b[at+4:])), int(binary.BigEndian.Uint16(b[at+8:]))))
	}
	return l, int(binary.BigEndian.Uint16(b)) == len(l) && formed(l, glyphs)
}

func expectBad(t *testing.T, name string, b []byte, glyphs int) {
	t.Helper()
	if l, e := Read(b, glyphs); e != api.ErrBad || len(l) != 0 {
		t.Errorf("%s: %d bytes, %d glyphs: %v, error %d", name, len(b), glyphs, l, e)
	}
}

// expectForm asks Formed, and Write and Read, which hang on it.
func expectForm(t *testing.T, name string, l []api.Range, glyphs int, want bool) {
	t.Helper()
	if Formed(l, glyphs) != want {
		t.Errorf("%s, %d glyphs: Formed says %v", name, glyphs, !want)
	}
	b, e := Write(l, glyphs)
	if !want || glyphs > 65536 {
		if e != api.ErrForm || len(b) != 0 {
			t.Errorf("%s, %d glyphs: Write: %x, error %d", name, glyphs, b, e)
		}
		return
	}
	if e != api.OK || !bytes.Equal(b, table(l)) {
		t.Errorf("%s, %d glyphs: Write: %x, error %d", name, glyphs, b, e)
	}
	if m, e := Read(b, glyphs); e != api.OK || !slices.Equal(l, m) {
		t.Errorf("%s, %d glyphs: Read: %v, error %d", name, glyphs, m, e)
	}
}

// edges are numbers about those at which something changes.
func edges() []int {
	return []int{
		math.MinInt, math.MinInt + 1, -1 << 40, -1 << 32, -1 << 31, -65536, -2, -1, 0, 1, 2, 29, 30, 31, 'Y', 'Z', 'Z' + 1, 'a', 'f', 'f' + 1, 'g', 'g' + 1,
		65534, 65535, 65536, 65537, 0x1f5ff, 0x1f600, 0x1f601, 1114110, 1114111, 1114112, 1<<31 - 1, 1 << 31, 1<<32 - 1, 1 << 32, 1<<32 + 1, 1 << 40, math.MaxInt - 1, math.MaxInt,
	}
}

// TestFormed is P17.1.
func TestFormed(t *testing.T) {
	for _, n := range edges() {
		expectForm(t, "latin", latin(), n, n >= 30)
		expectForm(t, "none", nil, n, true)
		expectForm(t, "one, glyph 0", []api.Range{span(7, 7, 0)}, n, n >= 1)
		expectForm(t, "from "+strconv.Itoa(n), with(span(n, 'f', 3)), 30, n > 'Z' && n <= 'f')
		expectForm(t, "to "+strconv.Itoa(n), with(span('a', n, 3)), 30, n >= 'a' && n < 'g')
		expectForm(t, "glyph "+strconv.Itoa(n), with(span('a', 'f', n)), 1000, n >= 0 && n <= 994)
		expectForm(t, "glyph "+strconv.Itoa(n)+" of 65536", with(span('a', 'f', n)), 65536, n >= 0 && n <= 65530)
	}
	for n := range 50 {
		expectForm(t, strconv.Itoa(n)+" ranges", many(n), 7, n <= 40)
	}
	expectForm(t, "none, empty", []api.Range{}, 0, true)
	expectForm(t, "first", append([]api.Range{span(-1, 0, 0)}, latin()[1:]...), 30, false)
	expectForm(t, "last", append(latin()[:5], span(1114110, 1114112, 4)), 30, false)
	expectForm(t, "all characters", []api.Range{span(0, 1114111, 0)}, 1114112, true)
	expectForm(t, "all characters", []api.Range{span(0, 1114111, 0)}, 1114111, false)
}

// TestFormedOfTwo: each range is wholly behind the one ahead; that their glyphs are alike is right.
func TestFormedOfTwo(t *testing.T) {
	for from := range 12 {
		for to := range 12 {
			two := []api.Range{span(4, 6, 2), span(from, to, 2)}
			expectForm(t, "behind", two, 100, from > 6 && to >= from)
			slices.Reverse(two)
			expectForm(t, "ahead", two, 100, to < 4 && to >= from)
		}
	}
	for n := range 10 {
		expectForm(t, "so many glyphs", []api.Range{span(10, 12, n)}, 8, n <= 5)
	}
}

// TestFormedBeyond65536: that there are more glyphs than two bytes tell apart is asked by Write and Read alone.
func TestFormedBeyond65536(t *testing.T) {
	far := []api.Range{span(1, 2, 65535)}
	expectForm(t, "far", far, 65536, false)
	expectForm(t, "far", far, 65537, true)
	expectForm(t, "far", []api.Range{span(1, 2, 65534)}, 65536, true)
	expectForm(t, "farthest", []api.Range{span(1, 2, math.MaxInt-2)}, math.MaxInt, true)
	expectForm(t, "too far", []api.Range{span(1, 2, math.MaxInt-1)}, math.MaxInt, false)
	expectForm(t, "round", []api.Range{span(0, 1114111, math.MaxInt-5)}, 30, false)
	expectForm(t, "round below", []api.Range{span(0, 1114111, 0)}, math.MinInt, false)
	expectForm(t, "round below, a glyph more", []api.Range{span(1, 2, 1)}, math.MinInt, false)
}

// TestExample is the chapter's.
func TestExample(t *testing.T) {
	if m := Map([]api.Range{span('A', 'Z', 1)}, "BAD!"); !slices.Equal(m, []int{2, 1, 4, 0}) {
		t.Error(m)
	}
}

func TestGlyph(t *testing.T) {
	for c, want := range map[int]int{
		0: 5, 1: 0, 'A' - 1: 0, 'A': 1, 'B': 2, 'Z': 26, 'Z' + 1: 0, 'a' - 1: 0, 'a': 3, 'f': 8, 'g': 0, 'h': 0, 0x1f5ff: 0, 0x1f600: 27, 0x1f602: 29, 0x1f603: 0,
		1114109: 0, 1114110: 4, 1114111: 5, 1114112: 0, -1: 0, math.MinInt: 0, math.MaxInt: 0,
	} {
		if g := Glyph(latin(), c); g != want {
			t.Error(c, g, want)
		}
	}
	for _, c := range edges() {
		if g := Glyph(nil, c); g != 0 {
			t.Error("no ranges", c, g)
		}
	}
}

// TestGlyphOfUnformed: whatever the ranges, the first one that has the character tells.
func TestGlyphOfUnformed(t *testing.T) {
	odd := []api.Range{
		span(9, 3, 100), span(20, 30, 7), span(10, 25, 1000), span(-5, -1, -3), span(40, 40, -9), span(2000000, 2000010, 1<<20),
		span(-1<<40, -1<<39, 1<<40), span(1<<39, 1<<40, -1<<40), span(0, 60, 70000),
	}
	for c, want := range map[int]int{
		3: 70003, 5: 70005, 9: 70009, 10: 1000, 19: 1009, 20: 7, 25: 12, 30: 17, 31: 70031, -5: -3, -1: 1, -6: 0, 40: -9, 41: 70041, 60: 70060, 61: 0,
		1999999: 0, 2000000: 1 << 20, 2000010: 1<<20 + 10, 2000011: 0, -1 << 40: 1 << 40, -1 << 39: 1<<40 + 1<<39, 1 << 40: -1 << 39,
	} {
		if g := Glyph(odd, c); g != want {
			t.Error(c, g, want)
		}
	}
	far := append(many(100), span(5000, 5001, 77))
	if g := Glyph(far, 5001); g != 78 {
		t.Error("beyond MaxRanges", g)
	}
	if m := Map(far, "\u1388\u1389"); !slices.Equal(m, []int{77, 78}) {
		t.Error("beyond MaxRanges", m)
	}
	// None of these must panic, whatever it is.
	for _, a := range edges() {
		for _, b := range edges() {
			wild := []api.Range{span(a, b, b), span(b, a, a)}
			for _, c := range edges() {
				Glyph(wild, c)
				Chars(wild, c)
				Formed(wild, c)
			}
		}
	}
}

func TestMap(t *testing.T) {
	l := append(latin()[:5], span(65533, 65533, 50), span(1114110, 1114111, 4))
	for text, want := range map[string][]int{
		"":                     {},
		"A":                    {1},
		"\x00":                 {5},
		"ABCabc":               {1, 2, 3, 3, 4, 5},
		"g!h":                  {0, 0, 0},
		"\U0001f601A":          {28, 1},
		"\U0010ffff":           {5},
		"\u00e4A\u65e5":        {0, 1, 0},
		"\ufffd":               {50},
		"\xff":                 {50},
		"\xff\xfeA":            {50, 50, 1},
		"A\xe2\x82":            {1, 50, 50},      // a character that is cut off: each byte is one
		"\xed\xa0\x80":         {50, 50, 50},     // half of a pair
		"\xf4\x90\x80\x80":     {50, 50, 50, 50}, // beyond the last character
		"\xc0\x80":             {50, 50},         // longer than it must be
		"\xf0\x9f\x98\x80\x80": {27, 50},
	} {
		if m := Map(l, text); !slices.Equal(m, want) {
			t.Error(strconv.Quote(text), m, want)
		}
	}
	if m := Map(latin(), "\xffA"); !slices.Equal(m, []int{0, 1}) {
		t.Error("65533 without a range", m)
	}
	if m := Map(nil, "AB"); !slices.Equal(m, []int{0, 0}) {
		t.Error("no ranges", m)
	}
	if m := Map(l, strings.Repeat("Z\u00e4", 50000)); len(m) != 100000 || m[99998] != 26 || m[99999] != 0 {
		t.Error("long", len(m))
	}
}

func TestChars(t *testing.T) {
	for glyph, want := range map[int][]int{
		-1: nil, 0: {'g'}, 1: {'A'}, 2: {'B'}, 3: {'C', 'a'}, 4: {'D', 'b', 1114110}, 5: {0, 'E', 'c', 1114111}, 8: {'H', 'f'}, 9: {'I'}, 26: {'Z'},
		27: {0x1f600}, 29: {0x1f602}, 30: nil, 65535: nil, 65536: nil, math.MinInt: nil, math.MaxInt: nil,
	} {
		if c := Chars(latin(), glyph); !slices.Equal(c, want) {
			t.Error(glyph, c, want)
		}
	}
	if c := Chars(nil, 0); len(c) != 0 {
		t.Error("no ranges", c)
	}
	// Characters of no range have glyph 0, but not by one of them.
	if c := Chars([]api.Range{span('A', 'Z', 1)}, 0); len(c) != 0 {
		t.Error("glyph 0", c)
	}
	if c := Chars([]api.Range{span(3, 4, 65534)}, 65535); !slices.Equal(c, []int{4}) {
		t.Error("the last glyph", c)
	}
	if c := Chars([]api.Range{span(0, 65535, 0)}, 65535); !slices.Equal(c, []int{65535}) {
		t.Error("as many as there may be", c)
	}
}

// TestCharsOfUnformed: ranges that aren't formed for up to 65536 glyphs have none.
func TestCharsOfUnformed(t *testing.T) {
	for name, l := range map[string][]api.Range{
		"falling": {span('a', 'z', 1), span('A', 'Z', 1)}, "two at one": {span(1, 5, 1), span(5, 6, 1)}, "too many": many(41), "below 0": {span(-1, 3, 1)},
		"no character": {span(1, 3, 1), span(1114111, 1114112, 5)}, "upside down": {span(1, 3, 1), span(9, 8, 5)}, "glyph below 0": {span(1, 3, -1)},
		"glyph 65536": {span(1, 3, 1), span(5, 6, 65535)}, "beyond": {span(1, 3, 1), span(5, 5, 65536)},
	} {
		for _, glyph := range []int{-1, 0, 1, 2, 5, 65535, 65536} {
			if c := Chars(l, glyph); len(c) != 0 {
				t.Error(name, glyph, c)
			}
		}
	}
	if c := Chars(many(40), 1); !slices.Equal(c, []int{1, 12, 22, 33, 43, 54}) {
		t.Error("as many as there may be", c)
	}
}

// randomRanges is up to 8 ranges that mostly rise, over few characters and glyphs.
func randomRanges(r *rand.Rand) []api.Range {
	var l []api.Range
	at := -1
	for range r.Intn(8) {
		from := at + 1 + r.Intn(5)
		if r.Intn(30) == 0 {
			from--
		}
		to := from + r.Intn(5)
		if r.Intn(30) == 0 {
			to -= 3
		}
		l = append(l, span(from, to, r.Intn(10)))
		at = to
	}
	return l
}

// TestAtRandom: Glyph, Chars and Formed, held against the chapter's words, one character after the other.
func TestAtRandom(t *testing.T) {
	r := rand.New(rand.NewSource(1))
	right := 0
	for range 20000 {
		l, glyphs := randomRanges(r), r.Intn(20)
		expectForm(t, "random", l, glyphs, formed(l, glyphs))
		byGlyph := map[int][]int{}
		for c := range 100 {
			i := slices.IndexFunc(l, func(x api.Range) bool { return x.From <= c && c <= x.To })
			want := 0
			if i >= 0 {
				want = l[i].Glyph + c - l[i].From
				byGlyph[want] = append(byGlyph[want], c)
			}
			if g := Glyph(l, c); g != want {
				t.Fatal(l, c, g, want)
			}
		}
		if !formed(l, 65536) {
			clear(byGlyph)
		} else {
			right++
		}
		for glyph := -1; glyph < 20; glyph++ {
			if c := Chars(l, glyph); !slices.Equal(c, byGlyph[glyph]) {
				t.Fatal(l, glyph, c, byGlyph[glyph])
			}
		}
	}
	if right < 5000 || right > 19000 {
		t.Error("formed", right)
	}
}

// TestBothTogether is P17.3.
func TestBothTogether(t *testing.T) {
	r := rand.New(rand.NewSource(1))
	pieces := []string{"A", "Zb", "\u00e4", "\u65e5", "\U0001f600", "\x80", "\xff", "\xe2\x82", "\xf0\x9f", "", "\xc3"}
	whole := 5 // with these a text ends with a whole character
	for range 5000 {
		first, second := "", ""
		for range r.Intn(5) {
			first += pieces[r.Intn(len(pieces))]
		}
		first += pieces[r.Intn(whole)]
		for range r.Intn(5) {
			second += pieces[r.Intn(len(pieces))]
		}
		apart := append(Map(latin(), first), Map(latin(), second)...)
		if both := Map(latin(), first+second); !slices.Equal(both, apart) {
			t.Fatal(strconv.Quote(first), strconv.Quote(second), both, apart)
		}
	}
	// A character that is cut in two is another thing.
	if m, n := Map(latin(), "\xf0\x9f\x98\x80"), append(Map(latin(), "\xf0\x9f"), Map(latin(), "\x98\x80")...); len(m) != 1 || len(n) != 4 {
		t.Error(m, n)
	}
}

// TestWriteOfBytes is P17.2, byte by byte.
func TestWriteOfBytes(t *testing.T) {
	b, e := Write([]api.Range{span('A', 'Z', 1), span(0x1f600, 1114111, 258)}, 65536)
	if e != api.ErrForm || len(b) != 0 {
		t.Errorf("too many glyphs: %x, error %d", b, e)
	}
	b, e = Write([]api.Range{span('A', 'Z', 1), span(0x1f600, 0x1f702, 258), span(1114111, 1114111, 65535)}, 65536)
	if want := "\x00\x03" + "\x00\x00\x00A\x00\x00\x00Z\x00\x01" + "\x00\x01\xf6\x00\x00\x01\xf7\x02\x01\x02" + "\x00\x10\xff\xff\x00\x10\xff\xff\xff\xff"; e != api.OK || string(b) != want {
		t.Errorf("%x, error %d", b, e)
	}
	b, e = Write(nil, 0)
	if e != api.OK || !bytes.Equal(b, []byte{0, 0}) {
		t.Errorf("no ranges: %x, error %d", b, e)
	}
	for _, n := range []int{65537, 1 << 20, math.MaxInt} {
		if b, e := Write(nil, n); e != api.ErrForm || len(b) != 0 {
			t.Errorf("no ranges, %d glyphs: %x, error %d", n, b, e)
		}
		expectBad(t, "no ranges, too many glyphs", []byte{0, 0}, n)
		expectBad(t, "too many glyphs", table(latin()), n)
	}
}

func TestReadOfOthers(t *testing.T) {
	b := table(latin())
	for n := range b {
		expectBad(t, "too short", b[:n], 30)
	}
	for _, more := range [][]byte{{0}, {255}, make([]byte, 10), b} {
		expectBad(t, "too long", slices.Concat(b, more), 30)
	}
	expectBad(t, "nothing", nil, 30)
	for _, n := range []int{math.MinInt, -1, 0, 29} {
		expectBad(t, "too few glyphs", b, n)
	}
	if l, e := Read(b, 65536); e != api.OK || !slices.Equal(l, latin()) {
		t.Error("more glyphs", l, e)
	}
	if l, e := Read([]byte{0, 0}, 0); e != api.OK || len(l) != 0 {
		t.Error("no ranges", l, e)
	}
	// Written rightly, but not formed.
	for name, l := range map[string][]api.Range{
		"41": many(41), "65535": slices.Repeat(many(1), 65535), "alike": {span(1, 1, 1), span(1, 1, 1)}, "upside down": {span(2, 1, 1)}, "falling": {span(5, 6, 1), span(1, 2, 1)},
		"no character": {span(1114111, 1114112, 1)}, "from far": {span(1<<32-1, 1<<32-1, 1)}, "from below 0": {span(1<<32-1, 3, 1)}, "to far": {span(1, 1<<31, 1)}, "glyph": {span(1, 2, 29)},
	} {
		expectBad(t, name, table(l), 30)
	}
	expectBad(t, "glyph 65536", table([]api.Range{span(1, 2, 65535)}), 65536)
	expectBad(t, "zeros", make([]byte, 1<<21), 30)
	expectBad(t, "ones", bytes.Repeat([]byte{255}, 2+65535*10), 30)
}

// TestReadOfTurned: bytes are read just if they are those of formed ranges, and as these.
func TestReadOfTurned(t *testing.T) {
	r := rand.New(rand.NewSource(1))
	others := 0
	check := func(b []byte, glyphs int) {
		t.Helper()
		want, right := isTable(b, glyphs)
		if !right {
			expectBad(t, "turned", b, glyphs)
			return
		}
		others++
		l, e := Read(b, glyphs)
		if e != api.OK || !slices.Equal(l, want) {
			t.Errorf("%x: %v, error %d", b, l, e)
		}
		if back, e := Write(l, glyphs); e != api.OK || !bytes.Equal(back, b) {
			t.Errorf("%x is written as %x, error %d", b, back, e)
		}
	}
	b := table(latin())
	turned := slices.Clone(b)
	for i := range b {
		for n := range 256 {
			turned[i] = byte(n)
			check(turned, 100)
			check(turned, 65536)
		}
		turned[i] = b[i]
	}
	for range 20000 {
		copy(turned, b)
		for range 1 + r.Intn(4) {
			turned[r.Intn(len(b))] = byte(r.Intn(256))
		}
		check(turned, 65536)
		check(turned[:r.Intn(len(b)+1)], 65536)
	}
	if others < 1000 {
		t.Error("others", others)
	}
}

// TestMemory: what is handed in is left as it is, its spare room too, and what is answered is new.
func TestMemory(t *testing.T) {
	spare := append(latin(), span(9, 9, 9))
	l := spare[:6]
	b, _ := Write(l, 30)
	again, _ := Write(l, 30)
	b[3] = 'x'
	if bytes.Equal(b, again) {
		t.Error("two answers share bytes")
	}
	room := append(slices.Clone(again), 1, 2, 3)
	m, _ := Read(room[:len(again)], 30)
	n, _ := Read(room[:len(again)], 30)
	m[0].From, m[1].Glyph = 3, 4
	room[2] = 'y'
	if !slices.Equal(n, latin()) {
		t.Error("two answers share ranges, or one its bytes", n)
	}
	Formed(l, 30)
	Glyph(l, 'C')
	first, second := Map(l, "ABC"), Map(l, "ABC")
	first[0] = 99
	if !slices.Equal(second, []int{1, 2, 3}) {
		t.Error("two answers share glyphs", second)
	}
	some, same := Chars(l, 4), Chars(l, 4)
	some[0] = 99
	if !slices.Equal(same, []int{'D', 'b', 1114110}) {
		t.Error("two answers share characters", same)
	}
	if !slices.Equal(spare, append(latin(), span(9, 9, 9))) || !bytes.Equal(room[len(again):], []byte{1, 2, 3}) {
		t.Error("what was handed in has changed", spare, room)
	}
}

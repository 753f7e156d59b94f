package shape

import (
	"math"
	"math/rand"
	"slices"
	"strings"
	"testing"

	"foundry/api"
	"foundry/chars"
	"foundry/feats"
	"foundry/place"
	"foundry/store"
	"foundry/subst"
)

// flat is a number that doesn't change.
func flat(n int) api.Slot {
	return api.Slot{Base: n, Row: api.None}
}

// put is a rule that puts out in the place of in.
func put(in []int, out ...int) api.Rule {
	return api.Rule{In: in, Out: out}
}

// move is a rule that moves in.
func move(in []int, x, y, w api.Slot) api.Rule {
	return api.Rule{In: in, X: x, Y: y, W: w}
}

// rules is a lookup of that kind, without Skip.
func rules(kind int, l ...api.Rule) api.Lookup {
	return api.Lookup{Kind: kind, Rules: l}
}

// skipping is the lookup with Skip.
func skipping(x api.Lookup) api.Lookup {
	x.Skip = true
	return x
}

// feature is lookups under a tag.
func feature(tag string, looks ...int) api.Feature {
	return api.Feature{Tag: tag, Looks: looks}
}

// alphabet is a font of one axis. A to F are the glyphs 1 to 6, of which 5 is a mark; all others are 0.
func alphabet() api.Font {
	f := api.Font{
		Axes:   []api.Axis{{Tag: "wght", Least: -65536, Most: 65536}},
		Store:  api.Store{Regions: [][]api.Tent{{{Peak: 16384, End: 16384}}}, Rows: [][]int{{100}, {-7}, {32767}}},
		Ranges: []api.Range{{From: 'A', To: 'F', Glyph: 1}},
	}
	for n := range 8 {
		f.Glyphs = append(f.Glyphs, api.Glyph{Advance: flat(100 * n)})
	}
	f.Glyphs[1].Advance.Row = 0
	f.Glyphs[2].Advance.Row = 1
	f.Glyphs[5].Mark = true
	return f
}

// with is the alphabet with these lookups, each of which is a feature: looa, loob, and so on.
func with(l ...api.Lookup) api.Font {
	f := alphabet()
	f.Looks = l
	for n := range l {
		f.Features = append(f.Features, feature("loo"+string(rune('a'+n)), n))
	}
	return f
}

// every is the tags of all features.
func every(f api.Font) []string {
	var on []string
	for _, x := range f.Features {
		on = append(on, x.Tag)
	}
	return on
}

// expectLine asks Line for the glyphs.
func expectLine(t *testing.T, f api.Font, coords []int, text string, on []string, want ...int) {
	t.Helper()
	if line, e := Line(f, coords, text, on); e != api.OK || !slices.Equal(line, want) {
		t.Errorf("%q at %v with %q: %v %d, want %v", text, coords, on, line, e, want)
	}
}

// expectShape asks Shape for the laid line, of each glyph its number, X, Y and Advance.
func expectShape(t *testing.T, f api.Font, coords []int, text string, on []string, want ...[4]int) {
	t.Helper()
	var line []api.Placed
	for _, x := range want {
		line = append(line, api.Placed{Glyph: x[0], X: x[1], Y: x[2], Advance: x[3]})
	}
	if out, e := Shape(f, coords, text, on); e != api.OK || !slices.Equal(out, line) {
		t.Errorf("%q at %v with %q: %v %d, want %v", text, coords, on, out, e, line)
	}
}

// expectErrors asks Line and Shape for their errors.
func expectErrors(t *testing.T, f api.Font, coords []int, text string, on []string, ofLine, ofShape api.Errno) {
	t.Helper()
	line, e := Line(f, coords, text, on)
	if e != ofLine || e != api.OK && len(line) > 0 {
		t.Errorf("Line of %.20q at %v with %q: %v %d, want error %d", text, coords, on, line, e, ofLine)
	}
	laid, e := Shape(f, coords, text, on)
	if e != ofShape || e != api.OK && len(laid) > 0 {
		t.Errorf("Shape of %.20q at %v with %q: %v %d, want error %d", text, coords, on, laid, e, ofShape)
	}
}

// TestExample is the chapter's, and the document's fifth one.
func TestExample(t *testing.T) {
	f := alphabet()
	f.Looks = []api.Lookup{rules(api.Ligature, put([]int{1, 2}, 3))}
	f.Features = []api.Feature{feature("liga", 0)}
	expectLine(t, f, []int{0}, "AB", []string{"liga"}, 3)
	expectLine(t, f, []int{0}, "AB", nil, 1, 2)
	expectShape(t, f, []int{0}, "AB", []string{"liga"}, [4]int{3, 0, 0, 300})
	expectShape(t, f, []int{0}, "AB", nil, [4]int{1, 0, 0, 100}, [4]int{2, 0, 0, 200})

	f.Features = []api.Feature{feature("liga")}
	f.Swaps = []api.Swap{{Conds: []api.Cond{{Axis: 0, Least: 8192, Most: 16384}}, Looks: []int{0}}}
	expectLine(t, f, []int{9830}, "AB", []string{"liga"}, 3)
	expectLine(t, f, []int{3277}, "AB", []string{"liga"}, 1, 2)
	expectLine(t, f, []int{9830}, "AB", nil, 1, 2)
}

// TestShapes is P23.1's Shapes, of fonts that shape.
func TestShapes(t *testing.T) {
	last := put([]int{7}, 7)
	for i, f := range []api.Font{
		{},
		{Looks: []api.Lookup{}},
		{Looks: []api.Lookup{rules(api.Single), rules(api.Kern), skipping(rules(api.Anchor))}},
		alphabet(),
		with(rules(api.Single, last), rules(api.Multiple, put([]int{7})), rules(api.Ligature, put([]int{7, 0}, 7))),
		with(rules(api.Context, api.Rule{In: []int{7, 0}, At: 1, Look: 1}), rules(api.Single, last)),
		with(rules(api.Move, move([]int{7}, flat(1), flat(2), api.Slot{Row: 2})), rules(api.Kern, move([]int{7, 0}, flat(1), flat(2), flat(3)))),
		with(rules(api.Anchor, move([]int{0, 7}, flat(1), api.Slot{Row: 2}, flat(0)))),
		with(slices.Repeat([]api.Lookup{rules(api.Single, last)}, api.MaxLookups)...),
		// Of kinds that neither put nor move nothing is asked.
		with(rules(0, put([]int{99, -1}, 99)), rules(8, move([]int{99}, flat(1<<20), flat(0), api.Slot{Row: 99})), rules(-1), rules(math.MaxInt)),
		// Nor is it of the rest: the store's own rows, ranges, features, axes.
		{Glyphs: make([]api.Glyph, 1), Looks: []api.Lookup{rules(api.Move, move([]int{0}, flat(0), flat(0), api.Slot{Row: 0}))}, Store: api.Store{Rows: [][]int{{1, 2}}}},
		{Ranges: []api.Range{{From: -5, To: -9, Glyph: -1}}, Features: []api.Feature{feature("", -1, 99)}, Swaps: []api.Swap{{Feature: -1}}, Axes: []api.Axis{{}}},
	} {
		if !Shapes(f) {
			t.Error(i)
		}
		expectErrors(t, f, nil, "", nil, api.OK, api.OK)
	}
}

// TestUnformed is P23.1's Shapes, of fonts that don't shape; Line and Shape refuse them ahead of all else.
func TestUnformed(t *testing.T) {
	for i, f := range []api.Font{
		with(make([]api.Lookup, api.MaxLookups+1)...),
		with(rules(api.Single, put([]int{8}, 1))),
		with(rules(api.Single, put([]int{1}, 8))),
		with(rules(api.Single, put([]int{-1}, 1))),
		with(rules(api.Single), rules(api.Multiple, put([]int{1, 2}, 1))),
		with(rules(api.Ligature, put([]int{1}, 1))),
		with(rules(api.Context, api.Rule{In: []int{1}, Look: 1})),
		with(rules(api.Context, api.Rule{In: []int{1}, Look: 1}), rules(api.Move)),
		with(rules(api.Single, slices.Repeat([]api.Rule{put([]int{1}, 1)}, api.MaxRules+1)...)),
		with(rules(api.Move, move([]int{8}, flat(0), flat(0), flat(0)))),
		with(rules(api.Single), rules(api.Kern, move([]int{1}, flat(0), flat(0), flat(0)))),
		with(rules(api.Kern, move([]int{1, 8}, flat(0), flat(0), flat(0)))),
		with(rules(api.Anchor, move([]int{1, 5}, flat(0), flat(0), flat(1)))),
		with(skipping(rules(api.Anchor, move([]int{1, 5}, flat(0), flat(0), flat(0))))),
		with(rules(api.Move, move([]int{1}, flat(0), flat(0), api.Slot{Row: 3}))),
		with(rules(api.Move, move([]int{1}, flat(32768), flat(0), flat(0)))),
		{Looks: []api.Lookup{rules(api.Single, put([]int{0}, 0))}},
		{Looks: []api.Lookup{rules(api.Move, move([]int{0}, flat(0), flat(0), flat(0)))}},
		{Glyphs: make([]api.Glyph, 1), Looks: []api.Lookup{rules(api.Move, move([]int{0}, flat(0), flat(0), api.Slot{}))}},
	} {
		if Shapes(f) {
			t.Error(i)
		}
		expectErrors(t, f, nil, "", nil, api.ErrForm, api.ErrForm)
		expectErrors(t, f, []int{0}, strings.Repeat("A", 101), every(f), api.ErrForm, api.ErrForm)
	}
}

// TestChars is the first step: the text's characters, by the ranges.
func TestChars(t *testing.T) {
	f := alphabet()
	expectLine(t, f, nil, "", nil)
	expectLine(t, f, nil, "CAB!", nil, 3, 1, 2, 0)
	expectLine(t, f, nil, "a\x00Fé", nil, 0, 0, 6, 0)
	f.Ranges = append(f.Ranges, api.Range{From: 0xe9, To: 0xe9, Glyph: 7}, api.Range{From: 65533, To: 65533, Glyph: 4}, api.Range{From: 0x1f600, To: 0x1f601, Glyph: 5})
	expectLine(t, f, nil, "Aé\U0001F601", nil, 1, 7, 6)
	// Bytes that are no character's are each 65533.
	expectLine(t, f, nil, "A\xff\xe9\xf0\x9f\x98", nil, 1, 4, 4, 4, 4, 4)
	f.Ranges = nil
	expectLine(t, f, nil, "AB", nil, 0, 0)
	// Ranges need not be formed: their first one counts.
	f.Ranges = []api.Range{{From: 'B', To: 'C', Glyph: 6}, {From: 'A', To: 'Z', Glyph: -2}}
	expectLine(t, f, nil, "ABCD", nil, -2, 6, 7, 1)
}

// TestLength is P23.1's ErrLong, which is ahead of all that the lookups refuse.
func TestLength(t *testing.T) {
	f := alphabet()
	f.Features = []api.Feature{feature("none", 0)}
	for _, s := range []string{"A", "é", "\U0001F600", "\xff", "\xe9", "\x00", "�"} {
		line, e := Line(f, nil, strings.Repeat(s, 100), nil)
		laid, fault := Shape(f, nil, strings.Repeat(s, 100), nil)
		if e != api.OK || len(line) != 100 || fault != api.OK || len(laid) != 100 {
			t.Errorf("100 of %q: %d %d, %d %d", s, len(line), e, len(laid), fault)
		}
		for _, n := range []int{101, 102, 5000} {
			expectErrors(t, f, nil, strings.Repeat(s, n), nil, api.ErrLong, api.ErrLong)
			expectErrors(t, f, nil, strings.Repeat(s, n), []string{"none"}, api.ErrLong, api.ErrLong)
		}
		expectErrors(t, f, nil, strings.Repeat(s, 100), []string{"none"}, api.ErrNone, api.ErrNone)
	}
	// 100 characters are few enough, though their bytes aren't; and it is the text that counts, not what it shrinks to.
	f = with(rules(api.Multiple, put([]int{1})))
	expectLine(t, f, nil, strings.Repeat("A", 100), every(f))
	expectErrors(t, f, nil, strings.Repeat("A", 101), every(f), api.ErrLong, api.ErrLong)
}

// TestLooks is the second step: lookups that are chosen, rising, one behind the other.
func TestLooks(t *testing.T) {
	f := with(rules(api.Single, put([]int{1}, 2)), rules(api.Single, put([]int{2}, 3)), rules(api.Single, put([]int{3}, 1)))
	expectLine(t, f, nil, "ABC", nil, 1, 2, 3)
	expectLine(t, f, nil, "ABC", []string{"looa"}, 2, 2, 3)
	expectLine(t, f, nil, "ABC", []string{"loob"}, 1, 3, 3)
	expectLine(t, f, nil, "ABC", []string{"none", "", "loo"}, 1, 2, 3)
	// Neither the order nor how often they are asked for is anything.
	expectLine(t, f, nil, "ABC", []string{"loob", "looa", "loob"}, 3, 3, 3)
	expectLine(t, f, nil, "ABC", every(f), 1, 1, 1)
	f.Features = []api.Feature{feature("liga", 2, 0), feature("calt"), feature("liga", 1, 0)}
	expectLine(t, f, nil, "ABC", []string{"liga"}, 1, 1, 1)
	expectLine(t, f, nil, "ABC", []string{"calt"}, 1, 2, 3)
	f.Swaps = []api.Swap{{Conds: []api.Cond{{Least: 1, Most: 100}}, Looks: nil}, {Feature: 2, Conds: []api.Cond{{Least: 100, Most: 200}}, Looks: []int{2}}}
	expectLine(t, f, []int{50}, "ABC", []string{"liga"}, 3, 3, 3)
	expectLine(t, f, []int{100}, "ABC", []string{"liga"}, 1, 2, 1)
	expectLine(t, f, []int{200}, "ABC", []string{"liga"}, 2, 2, 1)
	expectLine(t, f, nil, "ABC", []string{"liga"}, 1, 1, 1)
}

// TestMarks is that marks are the glyphs that are; a number that is no glyph's is none.
func TestMarks(t *testing.T) {
	f := with(skipping(rules(api.Ligature, put([]int{1, 2}, 3))), skipping(rules(api.Single, put([]int{5}, 6))))
	expectLine(t, f, nil, "AEBE", every(f), 3, 5, 5)
	expectLine(t, f, nil, "ACB", every(f), 1, 3, 2)
	f.Glyphs[5].Mark, f.Glyphs[3].Mark = false, true
	expectLine(t, f, nil, "AEBE", every(f), 1, 6, 2, 6)
	expectLine(t, f, nil, "ACB", every(f), 3, 3)
	f.Ranges[0].To = 'Z'
	expectLine(t, f, nil, "AZB", every(f), 1, 26, 2)
}

// TestLookErrors is the second step's errors.
func TestLookErrors(t *testing.T) {
	f := with(rules(api.Multiple, put([]int{1}, 1, 1)), rules(api.Kern))
	expectErrors(t, f, nil, strings.Repeat("A", 50), every(f), api.OK, api.OK)
	expectErrors(t, f, nil, strings.Repeat("A", 51), every(f), api.ErrLong, api.ErrLong)
	expectErrors(t, f, nil, strings.Repeat("A", 51), []string{"loob"}, api.OK, api.OK)
	// The first one counts, of lookups that rise.
	f.Features = []api.Feature{feature("more", 0), feature("low_", -1), feature("high", 2), feature("far_", math.MaxInt, math.MinInt)}
	for _, tag := range []string{"low_", "high", "far_"} {
		expectErrors(t, f, nil, "", []string{tag}, api.ErrNone, api.ErrNone)
		expectErrors(t, f, nil, "A", []string{tag, "more"}, api.ErrNone, api.ErrNone)
	}
	expectErrors(t, f, nil, strings.Repeat("A", 51), []string{"high", "more"}, api.ErrLong, api.ErrLong)
	expectErrors(t, f, nil, strings.Repeat("A", 51), []string{"low_", "more"}, api.ErrNone, api.ErrNone)
	expectErrors(t, f, nil, "A", []string{"none"}, api.OK, api.OK)
}

// TestAdvances is the third step: the line behind the lookups is laid, with advances at the coordinates.
func TestAdvances(t *testing.T) {
	f := with(rules(api.Ligature, put([]int{3, 3}, 1)), rules(api.Multiple, put([]int{4}, 2, 5)))
	expectShape(t, f, nil, "", nil)
	for _, x := range []struct {
		coords []int
		a, b   int
	}{
		{nil, 100, 200},
		{[]int{0}, 100, 200},
		{[]int{-16384}, 100, 200},
		{[]int{8192}, 150, 197},
		{[]int{16384, 5, 5}, 200, 193},
		{[]int{82}, 101, 200},
		{[]int{81}, 100, 200},
	} {
		expectShape(t, f, x.coords, "BA!B", nil, [4]int{2, 0, 0, x.b}, [4]int{1, 0, 0, x.a}, [4]int{}, [4]int{2, 0, 0, x.b})
		expectShape(t, f, x.coords, "CCD", every(f), [4]int{1, 0, 0, x.a}, [4]int{2, 0, 0, x.b}, [4]int{5, 0, 0, 500})
	}
}

// TestAdvanceErrors is the third step's errors, which are behind Line's and ahead of the fourth step's.
func TestAdvanceErrors(t *testing.T) {
	f := with(rules(api.Single, put([]int{3}, 1)), rules(api.Move, move([]int{4}, api.Slot{Base: 1, Row: 2}, flat(0), flat(0))))
	f.Ranges[0].To = 'Z'
	f.Glyphs[1].Advance = api.Slot{Base: 1, Row: 2}
	f.Glyphs[2].Advance = api.Slot{Row: 3}
	f.Glyphs[0].Advance = flat(-32769)
	f.Features = append(f.Features, feature("none", 9))
	most := []int{16384}
	expectErrors(t, f, most, "A", nil, api.OK, api.ErrRange)
	expectErrors(t, f, nil, "A", nil, api.OK, api.OK)
	expectErrors(t, f, most, "B", nil, api.OK, api.ErrForm)
	expectErrors(t, f, most, "!", nil, api.OK, api.ErrForm)
	expectErrors(t, f, most, "G", nil, api.OK, api.OK)
	expectErrors(t, f, most, "H", nil, api.OK, api.ErrNone)
	expectErrors(t, f, most, "EABH", nil, api.OK, api.ErrRange)
	expectErrors(t, f, most, "EBAH", nil, api.OK, api.ErrForm)
	expectErrors(t, f, most, "HAB", nil, api.OK, api.ErrNone)
	expectErrors(t, f, most, "BAH", []string{"none"}, api.ErrNone, api.ErrNone)
	// It is the glyphs that are put which are asked.
	expectErrors(t, f, most, "CH", nil, api.OK, api.ErrNone)
	expectErrors(t, f, most, "CH", every(f)[:1], api.OK, api.ErrRange)
	expectErrors(t, f, most, "D", every(f)[:2], api.OK, api.ErrRange)
	expectErrors(t, f, most, "DH", every(f)[:2], api.OK, api.ErrNone)
	f.Ranges[0].Glyph = -1
	expectErrors(t, f, nil, "A", nil, api.OK, api.ErrNone)
	expectErrors(t, f, nil, "C", nil, api.OK, api.OK)
}

// TestMoves is the fourth step: lookups that move, by numbers at the coordinates.
func TestMoves(t *testing.T) {
	f := with(
		rules(api.Kern, move([]int{3, 4}, flat(1), flat(2), api.Slot{Base: -50, Row: 0})),
		rules(api.Anchor, move([]int{3, 5}, flat(20), api.Slot{Base: 700, Row: 1}, flat(0))),
		rules(api.Single, put([]int{6}, 3)),
		skipping(rules(api.Kern, move([]int{3, 3}, flat(0), flat(0), flat(-9)))),
	)
	half := []int{8192}
	expectShape(t, f, half, "CDE", nil, [4]int{3, 0, 0, 300}, [4]int{4, 0, 0, 400}, [4]int{5, 0, 0, 500})
	expectShape(t, f, half, "CDC", every(f), [4]int{3, 1, 2, 300}, [4]int{4, 0, 0, 400}, [4]int{3, 0, 0, 300})
	expectShape(t, f, nil, "CD", every(f), [4]int{3, 1, 2, 250}, [4]int{4, 0, 0, 400})
	expectShape(t, f, []int{16384}, "CD", []string{"looa"}, [4]int{3, 1, 2, 350}, [4]int{4, 0, 0, 400})
	// A mark is laid where its glyph is, and passed over; one that isn't is neither.
	expectShape(t, f, half, "CEC", every(f), [4]int{3, 0, 0, 291}, [4]int{5, -280, 697, 500}, [4]int{3, 0, 0, 300})
	// All that is put is put first, though its lookup stands behind.
	expectShape(t, f, half, "FDFE", every(f), [4]int{3, 1, 2, 300}, [4]int{4, 0, 0, 400}, [4]int{3, 0, 0, 300}, [4]int{5, -280, 697, 500})
	expectShape(t, f, half, "FE", []string{"loob"}, [4]int{6, 0, 0, 600}, [4]int{5, 0, 0, 500})
	f.Glyphs[5].Mark = false
	expectShape(t, f, half, "CEC", every(f), [4]int{3, 0, 0, 300}, [4]int{5, 0, 0, 500}, [4]int{3, 0, 0, 300})
}

// TestMoved is that the fourth step's lookups are those that are chosen, each once, where they swap.
func TestMoved(t *testing.T) {
	f := with(rules(api.Move, move([]int{3}, flat(5), flat(0), flat(0))), rules(api.Move, move([]int{3}, flat(0), flat(7), flat(1))))
	f.Features = []api.Feature{feature("calt", 0, 0), feature("calt", 0), feature("kern", 1)}
	f.Swaps = []api.Swap{{Feature: 0, Conds: []api.Cond{{Least: 5, Most: 5}}, Looks: []int{1}}, {Feature: 1, Conds: []api.Cond{{Least: 5, Most: 5}}}}
	expectShape(t, f, nil, "C", []string{"calt", "calt"}, [4]int{3, 5, 0, 300})
	expectShape(t, f, nil, "C", []string{"kern", "calt"}, [4]int{3, 5, 7, 301})
	expectShape(t, f, []int{5}, "C", []string{"calt"}, [4]int{3, 0, 7, 301})
	expectShape(t, f, []int{5}, "C", []string{"kern", "calt"}, [4]int{3, 0, 7, 301})
	expectShape(t, f, []int{5}, "C", nil, [4]int{3, 0, 0, 300})
}

// TestManyGlyphs is of a font with more glyphs than lookups are done for: it shapes, and layers 20 and 21 refuse it.
func TestManyGlyphs(t *testing.T) {
	f := with(rules(api.Single), rules(api.Single, put([]int{65536}, 1)))
	f.Glyphs = append(f.Glyphs, make([]api.Glyph, 65537-len(f.Glyphs))...)
	f.Features = append(f.Features, feature("none", 2))
	if !Shapes(f) {
		t.Error("65537 glyphs")
	}
	expectErrors(t, f, nil, "C", nil, api.OK, api.OK)
	expectErrors(t, f, nil, "C", []string{"looa"}, api.ErrForm, api.ErrForm)
	expectErrors(t, f, nil, "C", []string{"none"}, api.ErrForm, api.ErrForm)
	f.Looks[1] = rules(api.Move, move([]int{65536}, flat(0), flat(0), flat(0)))
	expectErrors(t, f, nil, "C", nil, api.OK, api.ErrForm)
	f.Ranges[0].To, f.Ranges[0].Glyph = 'E', 65535
	expectErrors(t, f, nil, "CA", nil, api.OK, api.ErrNone)
	expectErrors(t, f, nil, "AB", []string{"looa", "loob"}, api.OK, api.ErrForm)
	f.Looks = nil
	expectErrors(t, f, nil, "AB", nil, api.OK, api.OK)
	f.Glyphs = f.Glyphs[:65536]
	expectErrors(t, f, nil, "AB", nil, api.OK, api.ErrNone)
}

// TestWidth is P23.1's Width.
func TestWidth(t *testing.T) {
	for i, x := range []struct {
		line []api.Placed
		want int
	}{
		{nil, 0},
		{[]api.Placed{}, 0},
		{[]api.Placed{{Glyph: 9, X: 70, Y: 800, Advance: 5}}, 5},
		{[]api.Placed{{Advance: 5}, {Advance: -7}, {X: 3}, {Advance: 600}}, 598},
		{[]api.Placed{{Advance: 1 << 40}, {Advance: 1 << 40}}, 1 << 41},
		{[]api.Placed{{Advance: -1 << 40}, {Advance: 1}}, 1 - 1<<40},
		{[]api.Placed{{Advance: math.MaxInt}, {Advance: math.MinInt}}, -1},
		{slices.Repeat([]api.Placed{{Advance: 3}}, 5000), 15000},
	} {
		if width := Width(x.line); width != x.want {
			t.Error(i, width)
		}
	}
}

// lineByWords tells the line step by step, of a font that shapes; the lookups that were done too.
func lineByWords(f api.Font, coords []int, text string, on []string) ([]int, []int, api.Errno) {
	var line, looks []int
	for _, c := range text {
		line = append(line, chars.Glyph(f.Ranges, int(c)))
	}
	var are []bool
	for _, g := range f.Glyphs {
		are = append(are, g.Mark)
	}
	for look := range f.Looks {
		for n := range f.Features {
			if slices.Contains(on, f.Features[n].Tag) && slices.Contains(feats.Looks(f.Features, f.Swaps, n, coords), look) {
				looks = append(looks, look)
				break
			}
		}
	}
	for _, look := range looks {
		next, e := subst.Line(f.Looks, look, are, line)
		if e != api.OK {
			return nil, nil, e
		}
		line = next
	}
	return line, looks, api.OK
}

// shapeByWords tells the laid line step by step, of a font that shapes.
func shapeByWords(f api.Font, coords []int, text string, on []string) ([]api.Placed, api.Errno) {
	line, looks, e := lineByWords(f, coords, text, on)
	if e != api.OK {
		return nil, e
	}
	var laid []api.Placed
	for _, g := range line {
		if g < 0 || g >= len(f.Glyphs) {
			return nil, api.ErrNone
		}
		n, e := store.Rounded(f.Store, f.Glyphs[g].Advance, coords)
		if e != api.OK {
			return nil, e
		}
		laid = append(laid, api.Placed{Glyph: g, Advance: n})
	}
	x := place.Scene{Store: f.Store, Coords: coords}
	for _, g := range f.Glyphs {
		x.Marks = append(x.Marks, g.Mark)
	}
	for _, look := range looks {
		if laid, e = place.All(f.Looks, []int{look}, x, laid); e != api.OK {
			return nil, e
		}
	}
	return laid, api.OK
}

// pick is some glyphs' numbers of few.
func pick(r *rand.Rand, n int) []int {
	var l []int
	for range n {
		l = append(l, 1+r.Intn(5))
	}
	return l
}

// slot is a number that changes or doesn't, and seldom leaves its field.
func slot(r *rand.Rand) api.Slot {
	row := r.Intn(3) - 1
	if r.Intn(40) == 0 {
		row = 2
	}
	return api.Slot{Base: r.Intn(400) - 100, Row: row}
}

// lookup is one of any kind, that is formed where it is number n of lookups that put, if it is below 5, or that move.
func lookup(r *rand.Rand, n int) api.Lookup {
	x := api.Lookup{Kind: api.Single + r.Intn(4), Skip: r.Intn(3) == 0}
	if n >= 5 {
		x.Kind = api.Move + r.Intn(3)
		x.Skip = x.Skip && x.Kind != api.Anchor
	}
	for range r.Intn(5) {
		var y api.Rule
		switch x.Kind {
		case api.Single:
			y = put(pick(r, 1), pick(r, 1)...)
		case api.Multiple:
			y = put(pick(r, 1), pick(r, r.Intn(4))...)
		case api.Ligature:
			y = put(pick(r, 2), pick(r, 1)...)
		case api.Context:
			y = api.Rule{In: pick(r, 2), At: r.Intn(2), Look: r.Intn(5)}
		case api.Move:
			y = move(pick(r, 1), slot(r), slot(r), slot(r))
		case api.Kern:
			y = move(pick(r, 2), slot(r), slot(r), slot(r))
		case api.Anchor:
			y = move(pick(r, 2), slot(r), slot(r), flat(0))
		}
		x.Rules = append(x.Rules, y)
	}
	return x
}

// someFont is the alphabet with other numbers, features and lookups.
func someFont(r *rand.Rand) api.Font {
	f := alphabet()
	for n := range f.Glyphs {
		f.Glyphs[n].Advance = slot(r)
		f.Glyphs[n].Mark = r.Intn(3) == 0
	}
	for n := range 10 {
		f.Looks = append(f.Looks, lookup(r, n))
	}
	someLooks := func() []int {
		var l []int
		for range r.Intn(6) {
			l = append(l, r.Intn(10))
		}
		return l
	}
	for range 4 {
		f.Features = append(f.Features, feature([]string{"calt", "kern", "liga"}[r.Intn(3)], someLooks()...))
	}
	for range 3 {
		least := r.Intn(16384)
		f.Swaps = append(f.Swaps, api.Swap{Feature: r.Intn(4), Looks: someLooks(), Conds: []api.Cond{{Least: least, Most: least + r.Intn(16385-least)}}})
	}
	return f
}

// someText is a text of characters that mostly have glyphs; seldom it is long.
func someText(r *rand.Rand) string {
	n := r.Intn(20)
	if r.Intn(20) == 0 {
		n = 80 + r.Intn(25)
	}
	b := make([]byte, n)
	for i := range b {
		b[i] = "ABCDEABCDEF!"[r.Intn(12)]
	}
	return string(b)
}

// someTags is tags that are on.
func someTags(r *rand.Rand) []string {
	return [][]string{nil, {"calt"}, {"kern", "liga"}, {"none", "liga", "calt", "kern", "liga"}}[r.Intn(4)]
}

// TestAtRandom is P23.1, against the chapter's words step by step.
func TestAtRandom(t *testing.T) {
	r := rand.New(rand.NewSource(23))
	seen := map[api.Errno]int{}
	for range 6000 {
		f, text, on := someFont(r), someText(r), someTags(r)
		coords := [][]int{nil, {r.Intn(16385)}, {-r.Intn(16385)}, {16384, 3}}[r.Intn(4)]
		if !Shapes(f) {
			t.Fatal("it doesn't shape", f)
		}
		if len(text) > api.MaxText {
			expectErrors(t, f, coords, text, on, api.ErrLong, api.ErrLong)
			continue
		}
		want, _, fault := lineByWords(f, coords, text, on)
		if line, e := Line(f, coords, text, on); e != fault || !slices.Equal(line, want) {
			t.Fatal("Line", f, coords, text, on, line, e, want, fault)
		}
		laid, wrong := shapeByWords(f, coords, text, on)
		if line, e := Shape(f, coords, text, on); e != wrong || !slices.Equal(line, laid) {
			t.Fatal("Shape", f, coords, text, on, line, e, laid, wrong)
		}
		seen[wrong]++
	}
	if seen[api.OK] < 3000 || seen[api.ErrRange] < 50 || seen[api.ErrLong] == 0 {
		t.Error("too few of a kind", seen)
	}
}

// TestWhatFollows is P23.2: lines that choose alike are alike, and with numbers that don't change they are laid alike.
func TestWhatFollows(t *testing.T) {
	r := rand.New(rand.NewSource(232))
	alike := 0
	for range 3000 {
		f, text, on := someFont(r), someText(r), someTags(r)
		one, other := []int{r.Intn(16385)}, []int{r.Intn(32769) - 16384}
		if !slices.Equal(feats.Chosen(f.Features, f.Swaps, one, on), feats.Chosen(f.Features, f.Swaps, other, on)) {
			continue
		}
		alike++
		line, e := Line(f, one, text, on)
		if again, fault := Line(f, other, text, on); fault != e || !slices.Equal(line, again) {
			t.Fatal("Line", f, one, other, text, on, line, e, again, fault)
		}
		f.Store.Rows = [][]int{{0}, {0}, {0}}
		laid, e := Shape(f, one, text, on)
		if again, fault := Shape(f, other, text, on); fault != e || !slices.Equal(laid, again) {
			t.Fatal("Shape", f, one, other, text, on, laid, e, again, fault)
		}
		// Each glyph of the line is laid, whatever moves it.
		if e == api.OK && !slices.EqualFunc(line, laid, func(g int, x api.Placed) bool { return g == x.Glyph }) {
			t.Fatal("glyphs", f, text, on, line, laid)
		}
	}
	if alike < 1000 {
		t.Error("too few", alike)
	}
}

// anyInt is a number of any size.
func anyInt(r *rand.Rand) int {
	return []int{0, 1, 2, 5, -1, 7, 8, 100, 16384, -16384, 65536, math.MaxInt, math.MinInt, r.Int()}[r.Intn(14)]
}

// anyInts is a list of them.
func anyInts(r *rand.Rand) []int {
	var l []int
	for range r.Intn(4) {
		l = append(l, anyInt(r))
	}
	return l
}

// spoilFont gives the font a part that is of no use.
func spoilFont(r *rand.Rand, f *api.Font) {
	n := r.Intn(10)
	odd := api.Slot{Base: anyInt(r), Row: anyInt(r)}
	switch r.Intn(9) {
	case 0:
		f.Looks[n].Kind = anyInt(r)
	case 1:
		f.Looks[n].Rules = append(f.Looks[n].Rules, api.Rule{In: anyInts(r), Out: anyInts(r), At: anyInt(r), Look: anyInt(r), X: odd, Y: odd, W: odd})
	case 2:
		f.Store.Rows[r.Intn(3)] = anyInts(r)
	case 3:
		f.Store.Regions = [][]api.Tent{{{Start: anyInt(r), Peak: anyInt(r), End: anyInt(r)}}}
	case 4:
		f.Ranges = []api.Range{{From: anyInt(r), To: anyInt(r), Glyph: anyInt(r)}, {From: math.MinInt, To: math.MaxInt, Glyph: anyInt(r)}}
	case 5:
		f.Features[r.Intn(4)].Looks = anyInts(r)
	case 6:
		f.Swaps[r.Intn(3)] = api.Swap{Conds: []api.Cond{{Axis: anyInt(r), Least: anyInt(r), Most: anyInt(r)}}, Feature: anyInt(r), Looks: anyInts(r)}
	case 7:
		f.Glyphs[r.Intn(8)].Advance = odd
	case 8:
		f.Glyphs = f.Glyphs[:r.Intn(9)]
	}
}

// TestAnything is R1 and R3: whatever they are given, the calls end, and beside an error there is nothing.
func TestAnything(t *testing.T) {
	r := rand.New(rand.NewSource(1))
	for range 4000 {
		f := someFont(r)
		for range 1 + r.Intn(3) {
			if len(f.Glyphs) == 8 {
				spoilFont(r, &f)
			}
		}
		text := someText(r) + []string{"", "\xff", "\U0010FFFF"}[r.Intn(3)]
		on, coords := append(someTags(r), ""), anyInts(r)
		line, e := Line(f, coords, text, on)
		laid, fault := Shape(f, coords, text, on)
		if e != api.OK && (len(line) > 0 || fault != e) || fault != api.OK && len(laid) > 0 || fault == api.OK && len(laid) != len(line) {
			t.Fatal(f, coords, text, on, line, e, laid, fault)
		}
		if !Shapes(f) && e != api.ErrForm {
			t.Fatal("it doesn't shape", f, line, e)
		}
		Width(laid)
	}
}

// spared is a copy of the list with spare room, which holds what the list begins with.
func spared[T any](l []T) []T {
	return slices.Concat(l, l)[:len(l)]
}

// TestMemory is R5: arguments stay as they are, and answers are new memory.
func TestMemory(t *testing.T) {
	sparedFont := func() api.Font {
		f := with(rules(api.Single, put([]int{1}, 2)), rules(api.Move, move([]int{2}, api.Slot{Row: 0}, flat(1), flat(2))))
		f.Glyphs, f.Ranges, f.Features = spared(f.Glyphs), spared(f.Ranges), spared(f.Features)
		f.Looks, f.Store.Rows = spared(f.Looks), spared(f.Store.Rows)
		return f
	}
	f, coords, on := sparedFont(), spared([]int{8192}), spared([]string{"looa", "loob"})
	for _, tags := range [][]string{nil, on} {
		line, e := Line(f, coords, "ABA", tags)
		laid, fault := Shape(f, coords, "ABA", tags)
		if e != api.OK || fault != api.OK {
			t.Fatal(e, fault)
		}
		firstLine, firstLaid := slices.Clone(line), slices.Clone(laid)
		line[0], laid[0] = -9, api.Placed{Glyph: -9}
		again, _ := Line(f, coords, "ABA", tags)
		anew, _ := Shape(f, coords, "ABA", tags)
		if !slices.Equal(again, firstLine) || !slices.Equal(anew, firstLaid) {
			t.Error("an answer isn't new", tags)
		}
		if Width(anew); !slices.Equal(anew, firstLaid) {
			t.Error("Width changed the line")
		}
	}
	g := sparedFont()
	if !slices.Equal(coords[:2], []int{8192, 8192}) || !slices.Equal(on[:4], []string{"looa", "loob", "looa", "loob"}) {
		t.Error("coordinates or tags were changed")
	}
	sameGlyph := func(x, y api.Glyph) bool { return x.Advance == y.Advance && x.Mark == y.Mark }
	sameLook := func(x, y api.Lookup) bool {
		return x.Kind == y.Kind && slices.EqualFunc(x.Rules, y.Rules, func(u, v api.Rule) bool {
			return slices.Equal(u.In, v.In) && slices.Equal(u.Out, v.Out) && u.X == v.X && u.Y == v.Y && u.W == v.W
		})
	}
	sameFeature := func(x, y api.Feature) bool { return x.Tag == y.Tag && slices.Equal(x.Looks, y.Looks) }
	if !slices.EqualFunc(f.Glyphs[:16], g.Glyphs[:16], sameGlyph) || !slices.Equal(f.Ranges[:2], g.Ranges[:2]) ||
		!slices.EqualFunc(f.Looks[:4], g.Looks[:4], sameLook) || !slices.EqualFunc(f.Features[:4], g.Features[:4], sameFeature) ||
		!slices.EqualFunc(f.Store.Rows[:6], g.Store.Rows[:6], slices.Equal) {
		t.Error("the font was changed")
	}
}

package place

import (
	"math"
	"math/big"
	"math/rand"
	"slices"
	"testing"

	"foundry/api"
)

// flat is a number that doesn't change.
func flat(n int) api.Slot {
	return api.Slot{Base: n, Row: api.None}
}

// rule moves in by flat numbers.
func rule(in []int, x, y, w int) api.Rule {
	return api.Rule{In: in, X: flat(x), Y: flat(y), W: flat(w)}
}

// placed is a laid line, of each glyph its number, X, Y and Advance.
func placed(l [][4]int) []api.Placed {
	var line []api.Placed
	for _, x := range l {
		line = append(line, api.Placed{Glyph: x[0], X: x[1], Y: x[2], Advance: x[3]})
	}
	return line
}

// rules is a lookup of that kind, without Skip.
func rules(kind int, l ...api.Rule) api.Lookup {
	return api.Lookup{Kind: kind, Rules: l}
}

// skipping is the lookup with Skip.
func skipping(x api.Lookup) api.Lookup {
	x.Skip = true
	return x
}

// hill is a store of one axis, whose rows change by 100, by -7 and by 32767 as much as the coordinate goes up to 1.
func hill() api.Store {
	return api.Store{Regions: [][]api.Tent{{{Peak: 16384, End: 16384}}}, Rows: [][]int{{100}, {-7}, {32767}}}
}

// outside is numbers that are none of a list of that length.
func outside(length int) []int {
	return []int{math.MinInt, math.MinInt + 1, -1 << 32, -2, -1, length, length + 1, 1 << 32, math.MaxInt - 1, math.MaxInt}
}

// expect asks All for the line.
func expect(t *testing.T, l []api.Lookup, looks []int, x Scene, line, want []api.Placed) {
	t.Helper()
	if out, e := All(l, looks, x, line); e != api.OK || !slices.Equal(out, want) {
		t.Errorf("%v in %v: %v %d, want %v", looks, line, out, e, want)
	}
}

// expectError asks All for an error.
func expectError(t *testing.T, l []api.Lookup, looks []int, x Scene, line []api.Placed, want api.Errno) {
	t.Helper()
	if out, e := All(l, looks, x, line); e != want || len(out) > 0 {
		t.Errorf("%v in %d glyphs: %v %d, want error %d", looks, len(line), out, e, want)
	}
}

// TestExample is the chapter's.
func TestExample(t *testing.T) {
	l := []api.Lookup{rules(api.Kern, rule([]int{1, 22}, 0, 0, -50))}
	expect(t, l, []int{0}, Scene{}, Lay([]int{1, 22, 1}, []int{600, 580, 600}), []api.Placed{{Glyph: 1, Advance: 550}, {Glyph: 22, Advance: 580}, {Glyph: 1, Advance: 600}})
}

// TestLay is P21.1's Lay.
func TestLay(t *testing.T) {
	for i, x := range []struct {
		line, advances []int
		want           []api.Placed
	}{
		{nil, nil, nil},
		{nil, []int{5}, nil},
		{[]int{}, []int{}, nil},
		{[]int{3}, nil, []api.Placed{{Glyph: 3}}},
		{[]int{3, 1, 3}, []int{500, 20}, []api.Placed{{Glyph: 3, Advance: 500}, {Glyph: 1, Advance: 20}, {Glyph: 3}}},
		{[]int{3, 1}, []int{0, 20, 99}, []api.Placed{{Glyph: 3}, {Glyph: 1, Advance: 20}}},
		{[]int{-1, math.MaxInt}, []int{math.MinInt, -4}, []api.Placed{{Glyph: -1, Advance: math.MinInt}, {Glyph: math.MaxInt, Advance: -4}}},
		{[]int{1, 2, 3}[:1], []int{7, 8}[:1], []api.Placed{{Glyph: 1, Advance: 7}}},
		{[]int{1, 2}, []int{7, 8}[:1], []api.Placed{{Glyph: 1, Advance: 7}, {Glyph: 2}}},
	} {
		if out := Lay(x.line, x.advances); !slices.Equal(out, x.want) {
			t.Error(i, out)
		}
	}
	if out := Lay(make([]int, 1000), slices.Repeat([]int{1}, 1000)); len(out) != 1000 || out[999] != (api.Placed{Advance: 1}) {
		t.Error("long", len(out))
	}
}

// TestFormed is P21.1, for lookups that are formed.
func TestFormed(t *testing.T) {
	s := hill()
	move, kern, anchor := rule([]int{3}, 1, 2, 3), rule([]int{3, 4}, 1, 2, 3), rule([]int{3, 4}, 1, 2, 0)
	for i, l := range [][]api.Lookup{
		nil,
		{},
		{rules(api.Move), rules(api.Kern), rules(api.Anchor)},
		{skipping(rules(api.Move)), skipping(rules(api.Kern)), skipping(rules(api.Anchor))},
		{rules(api.Move, move), rules(api.Kern, kern), rules(api.Anchor, anchor)},
		{skipping(rules(api.Move, move)), skipping(rules(api.Kern, kern))},
		{rules(api.Move, rule([]int{0}, 0, 0, 0), rule([]int{49}, 32767, -32768, 32767), rule([]int{49}, -32768, 32767, -32768))},
		{rules(api.Kern, rule([]int{0, 49}, 32767, -32768, 32767), rule([]int{49, 0}, -32768, 32767, -32768), rule([]int{7, 7}, 0, 0, 0))},
		{rules(api.Anchor, rule([]int{0, 49}, 32767, -32768, 0), rule([]int{49, 0}, -32768, 32767, 0), rule([]int{7, 7}, 0, 0, 0))},
		{rules(api.Move, api.Rule{In: []int{1}, W: api.Slot{Row: 2}}), rules(api.Kern, api.Rule{In: []int{1, 2}, X: api.Slot{Row: 2}, Out: []int{}})},
		{rules(api.Anchor, api.Rule{In: []int{1, 2}, X: api.Slot{Base: 5, Row: 1}, Y: api.Slot{Row: 2}, W: flat(0)})},
		{rules(api.Kern, slices.Repeat([]api.Rule{kern}, api.MaxRules)...)},
		slices.Repeat([]api.Lookup{rules(api.Move, move)}, api.MaxLookups),
	} {
		if !Formed(l, s, 50) || !Formed(l, s, math.MaxInt) || !Formed(l, s, mostGlyphs) {
			t.Error(i)
		}
	}
	// Glyphs' numbers are asked of rules alone.
	for _, glyphs := range []int{math.MinInt, -1, 0, 1, 3} {
		if !Formed([]api.Lookup{rules(api.Move), rules(api.Anchor)}, s, glyphs) || !Formed(nil, s, glyphs) {
			t.Error("no rules", glyphs)
		}
		for _, x := range []api.Lookup{rules(api.Move, move), rules(api.Kern, kern), rules(api.Anchor, anchor)} {
			if Formed([]api.Lookup{x}, s, glyphs) {
				t.Error("a rule", x.Kind, glyphs)
			}
		}
	}
	if !Formed([]api.Lookup{rules(api.Move, move)}, s, 4) || Formed([]api.Lookup{rules(api.Kern, kern)}, s, 4) || !Formed([]api.Lookup{rules(api.Kern, kern)}, s, 5) {
		t.Error("In is below glyphs")
	}
}

// unfit is rules that no lookup of these kinds may have, for hill and 50 glyphs.
func unfit() []struct {
	kinds []int
	rule  api.Rule
} {
	move, kern, anchor := []int{api.Move}, []int{api.Kern}, []int{api.Anchor}
	two := []int{api.Kern, api.Anchor}
	type wrong = struct {
		kinds []int
		rule  api.Rule
	}
	l := []wrong{
		{move, rule(nil, 0, 0, 0)},
		{move, rule([]int{1, 2}, 0, 0, 0)},
		{two, rule(nil, 0, 0, 0)},
		{two, rule([]int{1}, 0, 0, 0)},
		{two, rule([]int{1, 2, 3}, 0, 0, 0)},
		{anchor, rule([]int{1, 2}, 0, 0, 1)},
		{anchor, rule([]int{1, 2}, 0, 0, -1)},
		{anchor, api.Rule{In: []int{1, 2}, X: flat(0), Y: flat(0)}},
		{anchor, api.Rule{In: []int{1, 2}, X: flat(0), Y: flat(0), W: api.Slot{Row: 1}}},
	}
	both := func(change func(*api.Rule)) {
		for _, kind := range []int{api.Move, api.Kern, api.Anchor} {
			x := rule([]int{1, 2}, 0, 0, 0)
			if kind == api.Move {
				x.In = x.In[:1]
			}
			change(&x)
			l = append(l, wrong{[]int{kind}, x})
		}
	}
	for _, n := range append(outside(0), 1) {
		if n != 0 {
			both(func(x *api.Rule) { x.At = n })
			both(func(x *api.Rule) { x.Look = n })
		}
		both(func(x *api.Rule) { x.Out = []int{n} })
	}
	both(func(x *api.Rule) { x.Out = []int{0} })
	for _, glyph := range outside(50) {
		both(func(x *api.Rule) { x.In[0] = glyph })
		l = append(l, wrong{kern, rule([]int{1, glyph}, 0, 0, 0)}, wrong{anchor, rule([]int{1, glyph}, 0, 0, 0)})
	}
	for _, slot := range []api.Slot{flat(32768), flat(-32769), flat(math.MaxInt), flat(math.MinInt), {Row: -2}, {Row: 3}, {Row: math.MaxInt}, {Row: math.MinInt}} {
		both(func(x *api.Rule) { x.X = slot })
		both(func(x *api.Rule) { x.Y = slot })
		both(func(x *api.Rule) { x.W = slot })
	}
	return l
}

// TestUnformed is P21.1, for rules and lists that aren't formed.
func TestUnformed(t *testing.T) {
	s := hill()
	good := map[int]api.Rule{api.Move: rule([]int{1}, 1, 2, 3), api.Kern: rule([]int{1, 2}, 1, 2, 3), api.Anchor: rule([]int{1, 2}, 1, 2, 0)}
	for i, x := range unfit() {
		for _, kind := range x.kinds {
			l := []api.Lookup{rules(kind, good[kind], x.rule), rules(api.Kern), rules(api.Single, api.Rule{At: 3})}
			if Formed(l, s, 50) {
				t.Error(i, kind, x.rule)
			}
			slices.Reverse(l)
			if Formed(l, s, 50) {
				t.Error("behind others", i, kind, x.rule)
			}
			l[2].Rules = l[2].Rules[:1]
			if !Formed(l, s, 50) {
				t.Error("without it", i, kind)
			}
		}
	}
	if Formed([]api.Lookup{skipping(rules(api.Anchor, good[api.Anchor]))}, s, 50) {
		t.Error("an Anchor with Skip")
	}
	// Of lookups that don't move glyphs nothing is asked, but how many there are.
	wrong := api.Rule{In: make([]int, 99), Out: []int{-1}, At: -5, Look: 77, X: api.Slot{Base: 1 << 40, Row: 9}}
	for _, kind := range []int{math.MinInt, -1, 0, 1, 2, 3, 4, 8, 9, 1 << 32, math.MaxInt} {
		l := []api.Lookup{skipping(rules(kind, slices.Repeat([]api.Rule{wrong}, api.MaxRules+1)...))}
		if !Formed(l, s, 50) || !Formed(l, api.Store{}, -1) {
			t.Error("another kind", kind)
		}
		if Formed(slices.Repeat(l, api.MaxLookups+1), s, 50) || !Formed(slices.Repeat(l, api.MaxLookups), s, 50) {
			t.Error("many of another kind", kind)
		}
	}
	for kind, x := range good {
		l := []api.Lookup{rules(kind, slices.Repeat([]api.Rule{x}, api.MaxRules+1)...), rules(api.Single)}
		if Formed(l, s, 50) {
			t.Error("too many rules", kind)
		}
		l[0].Rules = l[0].Rules[1:]
		if !Formed(l, s, 50) {
			t.Error("as many rules as may be", kind)
		}
		l = slices.Repeat(l, 6)
		if Formed(l[:api.MaxLookups+1], s, 50) || !Formed(l[:api.MaxLookups], s, 50) {
			t.Error("too many lookups", kind)
		}
	}
	// Rows that a slot may have are those of the store, below MaxRows.
	s.Rows = slices.Repeat([][]int{{1}}, api.MaxRows+1)
	for row, fit := range map[int]bool{0: true, 399: true, 400: false, 401: false} {
		x := api.Rule{In: []int{1}, X: flat(0), Y: flat(0), W: api.Slot{Row: row}}
		if Formed([]api.Lookup{rules(api.Move, x)}, s, 50) != fit {
			t.Error("row", row)
		}
	}
}

// TestMove is P21.2, of Moves.
func TestMove(t *testing.T) {
	x := Scene{Marks: []bool{9: true}}
	line := placed([][4]int{{1, 10, 20, 500}, {9, 1, 2, 3}, {1, 0, 0, 400}, {5, 0, 0, 0}})
	l := []api.Lookup{
		rules(api.Move, rule([]int{1}, 1, -2, 30), rule([]int{1}, 100, 100, 100), rule([]int{9}, 5, 6, 7)),
		skipping(rules(api.Move, rule([]int{9}, 5, 6, 7), rule([]int{1}, 1, -2, 30))),
		rules(api.Move, rule([]int{9}, 0, 0, -3)),
		rules(api.Move),
	}
	expect(t, l, []int{0}, x, line, placed([][4]int{{1, 11, 18, 530}, {9, 6, 8, 10}, {1, 1, -2, 430}, {5, 0, 0, 0}}))
	expect(t, l, []int{1}, x, line, placed([][4]int{{1, 11, 18, 530}, {9, 1, 2, 3}, {1, 1, -2, 430}, {5, 0, 0, 0}}))
	expect(t, l, []int{1}, Scene{}, line, placed([][4]int{{1, 11, 18, 530}, {9, 6, 8, 10}, {1, 1, -2, 430}, {5, 0, 0, 0}}))
	expect(t, l, []int{2}, x, line, placed([][4]int{{1, 10, 20, 500}, {9, 1, 2, 0}, {1, 0, 0, 400}, {5, 0, 0, 0}}))
	expect(t, l, []int{3}, x, line, line)
	expect(t, l, nil, x, line, line)
	// One behind the other, as often as it is there.
	expect(t, l, []int{2, 0, 2, 0}, x, line, placed([][4]int{{1, 12, 16, 560}, {9, 11, 14, 11}, {1, 2, -4, 460}, {5, 0, 0, 0}}))
	expect(t, l, []int{0}, x, nil, nil)
}

// TestKern is P21.2, of Kerns.
func TestKern(t *testing.T) {
	x := Scene{Marks: []bool{9: true}}
	kern := rules(api.Kern, rule([]int{1, 2}, 1, 2, 3), rule([]int{1, 2}, 9, 9, 9), rule([]int{2, 1}, 0, 0, -50), rule([]int{1, 1}, 4, 0, 0), rule([]int{9, 1}, 0, 7, 0))
	l := []api.Lookup{kern, skipping(kern)}
	// The second glyph of one pair may be the first one of the next.
	expect(t, l, []int{0}, x, Lay([]int{1, 2, 1, 1, 1, 2}, nil), placed([][4]int{{1, 1, 2, 3}, {2, 0, 0, -50}, {1, 4, 0, 0}, {1, 4, 0, 0}, {1, 1, 2, 3}, {2, 0, 0, 0}}))
	for i := range l {
		expect(t, l, []int{i}, x, Lay([]int{1}, nil), []api.Placed{{Glyph: 1}})
		expect(t, l, []int{i}, x, Lay([]int{1, 3, 2}, []int{1, 2, 3}), Lay([]int{1, 3, 2}, []int{1, 2, 3}))
		expect(t, l, []int{i}, x, nil, nil)
	}
	// Marks between, and marks themselves.
	line := Lay([]int{9, 1, 9, 9, 2, 9, 1}, nil)
	expect(t, l, []int{0}, x, line, placed([][4]int{{9, 0, 7, 0}, {1, 0, 0, 0}, {9, 0, 0, 0}, {9, 0, 0, 0}, {2, 0, 0, 0}, {9, 0, 7, 0}, {1, 0, 0, 0}}))
	expect(t, l, []int{1}, x, line, placed([][4]int{{9, 0, 0, 0}, {1, 1, 2, 3}, {9, 0, 0, 0}, {9, 0, 0, 0}, {2, 0, 0, -50}, {9, 0, 0, 0}, {1, 0, 0, 0}}))
	expect(t, l, []int{1}, Scene{}, line, placed([][4]int{{9, 0, 7, 0}, {1, 0, 0, 0}, {9, 0, 0, 0}, {9, 0, 0, 0}, {2, 0, 0, 0}, {9, 0, 7, 0}, {1, 0, 0, 0}}))
	expect(t, l, []int{1, 0, 1}, x, Lay([]int{1, 2, 9}, []int{100, 100, 100}), placed([][4]int{{1, 3, 6, 109}, {2, 0, 0, 100}, {9, 0, 0, 100}}))
}

// TestAnchor is P21.2, of Anchors.
func TestAnchor(t *testing.T) {
	x := Scene{Marks: []bool{8: true, 9: true}}
	l := []api.Lookup{
		rules(api.Anchor, rule([]int{1, 9}, 10, 700, 0), rule([]int{1, 9}, 1, 1, 0), rule([]int{2, 9}, 20, 600, 0), rule([]int{9, 9}, 3, 3, 0), rule([]int{1, 2}, 5, 5, 0), rule([]int{9, 8}, 5, 5, 0)),
		rules(api.Move, rule([]int{1}, 4, 5, 6), rule([]int{9}, 1, 1, 1)),
		rules(api.Anchor, rule([]int{8, 9}, 1, 2, 0), rule([]int{1, 8}, 3, 4, 0)),
		rules(api.Kern, rule([]int{1, 8}, 0, 0, -70)),
	}
	expect(t, l, []int{0}, x, Lay([]int{1, 9}, []int{500, 20}), placed([][4]int{{1, 0, 0, 500}, {9, -490, 700, 20}}))
	// Marks between are passed over, and their advances count.
	expect(t, l, []int{0}, x, Lay([]int{1, 9, 8, 9, 2, 9}, []int{500, 20, 3, 30, 400, 0}), placed([][4]int{{1, 0, 0, 500}, {9, -490, 700, 20}, {8, 0, 0, 3}, {9, -513, 700, 30}, {2, 0, 0, 400}, {9, -380, 600, 0}}))
	// Where the one ahead lies counts, where the mark itself lay doesn't; its advance stays.
	expect(t, l, []int{0}, x, placed([][4]int{{3, 7, 7, 7}, {1, 11, -22, 500}, {9, 77, 88, 20}}), placed([][4]int{{3, 7, 7, 7}, {1, 11, -22, 500}, {9, -479, 678, 20}}))
	expect(t, l, []int{0, 0}, x, placed([][4]int{{1, 11, -22, 500}, {9, 77, 88, 20}}), placed([][4]int{{1, 11, -22, 500}, {9, -479, 678, 20}}))
	// One behind the other: the lookup ahead has moved both.
	expect(t, l, []int{1, 0}, x, Lay([]int{1, 9, 9}, []int{500, 20, 40}), placed([][4]int{{1, 4, 5, 506}, {9, -492, 705, 21}, {9, -513, 705, 41}}))
	expect(t, l, []int{0, 1}, x, Lay([]int{1, 9, 9}, []int{500, 20, 40}), placed([][4]int{{1, 4, 5, 506}, {9, -489, 701, 21}, {9, -509, 701, 41}}))
	expect(t, l, []int{3, 2, 3}, x, Lay([]int{1, 8}, []int{500, 20}), placed([][4]int{{1, 0, 0, 360}, {8, -427, 4, 20}}))
	// What has nothing ahead, or another glyph, or is no mark, isn't moved.
	for _, line := range [][]int{nil, {9}, {9, 9}, {8, 9}, {9, 8}, {3, 9}, {1, 2}, {1, 3, 9}, {1, 9999}, {2, 1}, {1, -1}} {
		expect(t, l, []int{0}, x, Lay(line, []int{5, 6, 7}), Lay(line, []int{5, 6, 7}))
	}
	expect(t, l, []int{2}, x, Lay([]int{1, 8, 9}, []int{5, 6, 7}), placed([][4]int{{1, 0, 0, 5}, {8, -2, 4, 6}, {9, 0, 0, 7}}))
	for _, marks := range [][]bool{nil, {1: true}, {1: true, 9: true}, {1: true, 2: true}, {9: false}} {
		expect(t, l, []int{0}, Scene{Marks: marks}, Lay([]int{1, 9}, []int{5, 6}), Lay([]int{1, 9}, []int{5, 6}))
	}
	// Marks that move nothing: they are none, and so they are what lies ahead.
	expect(t, l, []int{2}, Scene{Marks: []bool{9: true}}, Lay([]int{1, 8, 9}, []int{5, 6, 7}), placed([][4]int{{1, 0, 0, 5}, {8, 0, 0, 6}, {9, -5, 2, 7}}))
}

// TestCoords is P21.2: numbers count rounded at the coordinates.
func TestCoords(t *testing.T) {
	l := []api.Lookup{
		rules(api.Move, api.Rule{In: []int{1}, X: api.Slot{Base: 3, Row: 0}, Y: api.Slot{Row: 1}, W: api.Slot{Base: -1, Row: 0}}),
		rules(api.Kern, api.Rule{In: []int{1, 9}, X: api.Slot{Row: 1}, Y: flat(2), W: api.Slot{Base: -50, Row: 0}}),
		rules(api.Anchor, api.Rule{In: []int{1, 9}, X: api.Slot{Base: 10, Row: 1}, Y: api.Slot{Base: 700, Row: 0}, W: flat(0)}),
	}
	line := Lay([]int{1, 9}, []int{500, 20})
	for _, x := range []struct {
		coords     []int
		move, kern api.Placed
		anchor     api.Placed
	}{
		{nil, api.Placed{Glyph: 1, X: 3, Advance: 499}, api.Placed{Glyph: 1, Y: 2, Advance: 450}, api.Placed{Glyph: 9, X: -490, Y: 700, Advance: 20}},
		{[]int{8192}, api.Placed{Glyph: 1, X: 53, Y: -3, Advance: 549}, api.Placed{Glyph: 1, X: -3, Y: 2, Advance: 500}, api.Placed{Glyph: 9, X: -493, Y: 750, Advance: 20}},
		{[]int{16384, 5}, api.Placed{Glyph: 1, X: 103, Y: -7, Advance: 599}, api.Placed{Glyph: 1, X: -7, Y: 2, Advance: 550}, api.Placed{Glyph: 9, X: -497, Y: 800, Advance: 20}},
		{[]int{-16384}, api.Placed{Glyph: 1, X: 3, Advance: 499}, api.Placed{Glyph: 1, Y: 2, Advance: 450}, api.Placed{Glyph: 9, X: -490, Y: 700, Advance: 20}},
		{[]int{16385}, api.Placed{Glyph: 1, X: 3, Advance: 499}, api.Placed{Glyph: 1, Y: 2, Advance: 450}, api.Placed{Glyph: 9, X: -490, Y: 700, Advance: 20}},
	} {
		scene := Scene{Store: hill(), Marks: []bool{9: true}, Coords: x.coords}
		expect(t, l, []int{0}, scene, line, []api.Placed{x.move, line[1]})
		expect(t, l, []int{1}, scene, line, []api.Placed{x.kern, line[1]})
		expect(t, l, []int{2}, scene, line, []api.Placed{line[0], x.anchor})
	}
}

// TestRange is P21.2's last error: of rules that are done.
func TestRange(t *testing.T) {
	far := api.Slot{Base: 1, Row: 2}
	x := Scene{Store: hill(), Marks: []bool{9: true}, Coords: []int{16384}}
	line := Lay([]int{1, 9, 2}, []int{500, 20, 300})
	for _, kind := range []int{api.Move, api.Kern, api.Anchor} {
		in, other := []int{1, 9}, []int{9, 2}
		if kind == api.Move {
			in, other = []int{1}, []int{7}
		}
		for i := range 3 {
			bad := rule(in, 0, 0, 0)
			if kind == api.Anchor && i == 2 {
				continue
			}
			*[]*api.Slot{&bad.X, &bad.Y, &bad.W}[i] = far
			undone := bad
			undone.In = other
			if kind == api.Kern {
				undone.In = []int{2, 1}
			}
			l := []api.Lookup{rules(kind, undone, bad), rules(kind, rule(in, 0, 0, 0), bad), rules(kind, undone), rules(api.Single)}
			expectError(t, l, []int{0}, x, line, api.ErrRange)
			// What isn't done isn't asked.
			expect(t, l[1:], []int{1, 2}, x, line, line)
			expect(t, l, []int{3}, x, line, line)
			expect(t, l, nil, x, line, line)
			if _, e := All(l, []int{1}, x, line); e != api.OK {
				t.Error("the first rule is done alone", kind, i, e)
			}
			// The first error counts.
			expectError(t, l, []int{0, 9}, x, line, api.ErrRange)
			expectError(t, l, []int{9, 0}, x, line, api.ErrNone)
			expectError(t, l, []int{2, 3, -1, 0}, x, line, api.ErrNone)
			// Elsewhere it is a field.
			scene := Scene{Store: x.Store, Marks: x.Marks, Coords: []int{16383}}
			if _, e := All(l, []int{0}, scene, line); e != api.OK {
				t.Error("just a field", kind, i, e)
			}
		}
	}
	// Just numbers of rules must be fields, not where glyphs are laid.
	l := []api.Lookup{rules(api.Move, rule([]int{1}, 32767, -32768, 32767))}
	expect(t, l, []int{0, 0, 0}, x, Lay([]int{1}, []int{32767}), placed([][4]int{{1, 98301, -98304, 131068}}))
}

// TestErrors is P21.2's errors, the first one where several apply.
func TestErrors(t *testing.T) {
	good := []api.Lookup{rules(api.Move, rule([]int{1}, 1, 1, 1)), rules(api.Single), rules(77)}
	bad := append(slices.Clone(good), rules(api.Move, rule([]int{65536}, 0, 0, 0)))
	long, full := make([]api.Placed, 101), make([]api.Placed, 100)
	for _, looks := range [][]int{nil, {0}, {3}, {9}, {-1}} {
		for _, line := range [][]api.Placed{nil, full, long} {
			expectError(t, bad, looks, Scene{}, line, api.ErrForm)
			expectError(t, make([]api.Lookup, 11), looks, Scene{}, line, api.ErrForm)
		}
		expectError(t, good, looks, Scene{}, long, api.ErrLong)
		expectError(t, good, looks, Scene{}, make([]api.Placed, 1<<20), api.ErrLong)
		expectError(t, nil, looks, Scene{}, long, api.ErrLong)
	}
	for _, k := range outside(len(good)) {
		for _, line := range [][]api.Placed{nil, full} {
			expectError(t, good, []int{k}, Scene{}, line, api.ErrNone)
			expectError(t, good, []int{0, 1, 2, k}, Scene{}, line, api.ErrNone)
			expectError(t, nil, []int{k, 0}, Scene{}, line, api.ErrNone)
		}
	}
	expect(t, good, []int{0, 1, 2}, Scene{}, full, full)
	expect(t, nil, nil, Scene{}, full, full)
	expectError(t, nil, []int{0}, Scene{}, nil, api.ErrNone)
	// The greatest glyph, and a store that the numbers fit, or don't.
	high := []api.Lookup{rules(api.Kern, rule([]int{65535, 65535}, 1, 0, 0))}
	expect(t, high, []int{0}, Scene{}, Lay([]int{65535, 65535}, nil), placed([][4]int{{65535, 1, 0, 0}, {65535, 0, 0, 0}}))
	row := []api.Lookup{rules(api.Move, api.Rule{In: []int{1}, X: api.Slot{Row: 2}, Y: flat(0), W: flat(0)})}
	expect(t, row, []int{0}, Scene{Store: hill()}, full, full)
	expectError(t, row, []int{0}, Scene{}, full, api.ErrForm)
	expectError(t, row, nil, Scene{Store: api.Store{Rows: [][]int{{1}, {2}}}}, full, api.ErrForm)
}

// roundHalfUp is the one rounding of a slot's value at one coordinate: of hill, whose part is the coordinate by 1.
func roundHalfUp(s api.Store, x api.Slot, coord int) int {
	value := new(big.Rat).SetInt64(int64(x.Base))
	if x.Row >= 0 {
		value.Add(value, big.NewRat(int64(s.Rows[x.Row][0])*int64(max(coord, 0)), 16384))
	}
	value.Add(value, big.NewRat(1, 2))
	return int(new(big.Int).Div(value.Num(), value.Denom()).Int64())
}

// byWords is what the chapter says: who is a mark is told ahead, and where each glyph is laid is reckoned from the line's beginning.
func byWords(l []api.Lookup, looks []int, x Scene, line []api.Placed, coord int) []api.Placed {
	line = slices.Clone(line)
	isMark := make([]bool, len(line))
	for i, p := range line {
		isMark[i] = p.Glyph >= 0 && p.Glyph < len(x.Marks) && x.Marks[p.Glyph]
	}
	for _, k := range looks {
		if l[k].Kind < 5 || l[k].Kind > 7 {
			continue
		}
		for at := range line {
			if l[k].Skip && isMark[at] {
				continue
			}
			second, base := at+1, at-1
			for l[k].Skip && second < len(line) && isMark[second] {
				second++
			}
			for base >= 0 && isMark[base] {
				base--
			}
			for _, rule := range l[k].Rules {
				n := []int{roundHalfUp(x.Store, rule.X, coord), roundHalfUp(x.Store, rule.Y, coord), roundHalfUp(x.Store, rule.W, coord)}
				if l[k].Kind == api.Anchor {
					if !isMark[at] || line[at].Glyph != rule.In[1] || base < 0 || line[base].Glyph != rule.In[0] {
						continue
					}
					pens := []int{0}
					for _, p := range line {
						pens = append(pens, pens[len(pens)-1]+p.Advance)
					}
					line[at].X = pens[base] + line[base].X + n[0] - pens[at]
					line[at].Y = line[base].Y + n[1]
					break
				}
				if line[at].Glyph != rule.In[0] || l[k].Kind == api.Kern && (second >= len(line) || line[second].Glyph != rule.In[1]) {
					continue
				}
				p := line[at]
				line[at] = api.Placed{Glyph: p.Glyph, X: p.X + n[0], Y: p.Y + n[1], Advance: p.Advance + n[2]}
				break
			}
		}
	}
	return line
}

// lookups is up to 10 formed lookups for hill, of glyphs from 0 to 4.
func lookups(r *rand.Rand) []api.Lookup {
	slot := func() api.Slot { return api.Slot{Base: r.Intn(200) - 100, Row: r.Intn(3) - 1} }
	l := make([]api.Lookup, 1+r.Intn(10))
	for i := range l {
		l[i] = api.Lookup{Kind: 4 + r.Intn(5), Skip: r.Intn(2) == 0}
		for range r.Intn(6) {
			x := api.Rule{In: []int{r.Intn(5), r.Intn(5)}, X: slot(), Y: slot(), W: slot()}
			switch l[i].Kind {
			case api.Move:
				x.In = x.In[:1]
			case api.Anchor:
				x.W, l[i].Skip = flat(0), false
			}
			l[i].Rules = append(l[i].Rules, x)
		}
	}
	return l
}

// scene is hill, marks of up to 6 glyphs, and a coordinate.
func scene(r *rand.Rand) Scene {
	marks := make([]bool, r.Intn(7))
	for i := range marks {
		marks[i] = r.Intn(3) == 0
	}
	return Scene{hill(), marks, []int{r.Intn(3*16384/2) - 8192}}
}

// laid is a line of up to that many glyphs from -1 to 5.
func laid(r *rand.Rand, most int) []api.Placed {
	line := make([]api.Placed, r.Intn(most+1))
	for i := range line {
		line[i] = api.Placed{Glyph: r.Intn(7) - 1, X: r.Intn(100) - 50, Y: r.Intn(100) - 50, Advance: r.Intn(600)}
	}
	return line
}

// TestAtRandom holds All against the chapter's words.
func TestAtRandom(t *testing.T) {
	r := rand.New(rand.NewSource(1))
	for range 4000 {
		l, x, line := lookups(r), scene(r), laid(r, 20)
		var looks []int
		for range r.Intn(12) {
			looks = append(looks, r.Intn(len(l)))
		}
		x.Coords[0] = min(x.Coords[0], 16384)
		expect(t, l, looks, x, line, byWords(l, looks, x, line, x.Coords[0]))
	}
}

// TestWhatFollows is P21.3.
func TestWhatFollows(t *testing.T) {
	r := rand.New(rand.NewSource(2))
	for range 2000 {
		l, x, line := lookups(r), scene(r), laid(r, 100)
		for k := range l {
			out, e := All(l, []int{k}, x, line)
			if e != api.OK || len(out) != len(line) {
				t.Fatal(k, len(out), len(line), e)
			}
			for i, p := range out {
				if p.Glyph != line[i].Glyph {
					t.Fatal("a glyph has changed", i, p, line[i])
				}
			}
		}
		for _, kind := range []int{api.Move, api.Kern} {
			var looks []int
			for k := range l {
				if l[k].Kind == kind {
					looks = append(looks, k, k)
				}
			}
			first, _ := All(l, looks, x, line)
			r.Shuffle(len(looks), func(i, j int) { looks[i], looks[j] = looks[j], looks[i] })
			expect(t, l, looks, x, line, first)
		}
	}
}

// TestAnything: whatever the arguments are, calls end, and beside an error there is nothing.
func TestAnything(t *testing.T) {
	r := rand.New(rand.NewSource(3))
	number := func() int {
		return []int{math.MinInt, -1, 0, 0, 0, 0, 1, 1, 2, 65535, 65536, math.MaxInt}[r.Intn(12)]
	}
	numbers := func(most int) []int {
		var l []int
		for range r.Intn(most + 1) {
			l = append(l, number())
		}
		return l
	}
	slot := func() api.Slot { return api.Slot{Base: number(), Row: number()} }
	for range 100000 {
		var l []api.Lookup
		for range r.Intn(4) {
			x := api.Lookup{Kind: 4 + r.Intn(5), Skip: r.Intn(2) == 0}
			for range r.Intn(3) {
				x.Rules = append(x.Rules, api.Rule{In: numbers(2), Out: numbers(0), At: 0, X: slot(), Y: slot(), W: slot()})
			}
			l = append(l, x)
		}
		x := Scene{Coords: numbers(2), Marks: make([]bool, r.Intn(3))}
		for range r.Intn(3) {
			x.Store.Regions = append(x.Store.Regions, []api.Tent{{Start: number(), Peak: number(), End: number()}})
		}
		for range r.Intn(3) {
			x.Store.Rows = append(x.Store.Rows, numbers(3))
		}
		line := Lay(numbers(4), numbers(4))
		formed := Formed(l, x.Store, 65536)
		Formed(l, x.Store, number())
		if out, e := All(l, numbers(3), x, line); (e == api.ErrForm) == formed || e != api.OK && len(out) > 0 || e == api.OK && len(out) != len(line) {
			t.Fatal(l, x, line, out, e)
		}
	}
}

// TestGreat: as many and as great as may be end soon.
func TestGreat(t *testing.T) {
	kern := rules(api.Kern, slices.Repeat([]api.Rule{rule([]int{1, 2}, 1, 1, 1)}, api.MaxRules-1)...)
	kern.Rules = append(kern.Rules, rule([]int{1, 1}, 0, 0, 1))
	anchor := rules(api.Anchor, slices.Repeat([]api.Rule{rule([]int{2, 9}, 1, 1, 0)}, api.MaxRules-1)...)
	anchor.Rules = append(anchor.Rules, rule([]int{1, 9}, 0, 5, 0))
	l := []api.Lookup{kern, anchor}
	line := Lay(append([]int{1}, slices.Repeat([]int{9}, 99)...), nil)
	out, e := All(l, slices.Repeat([]int{0, 1}, 200), Scene{Marks: []bool{9: true}}, line)
	if e != api.OK || len(out) != 100 || out[99] != (api.Placed{Glyph: 9, Y: 5}) {
		t.Error("marks", e, len(out))
	}
	line = Lay(slices.Repeat([]int{1}, 100), nil)
	out, e = All(l, slices.Repeat([]int{0, 1}, 200), Scene{Marks: []bool{9: true}}, line)
	if e != api.OK || len(out) != 100 || out[98].Advance != 200 || out[99].Advance != 0 {
		t.Error("kerns", e, len(out))
	}
	huge := make([]api.Rule, 1<<20)
	if Formed([]api.Lookup{rules(api.Move, huge...)}, api.Store{}, 9) || Formed(make([]api.Lookup, 1<<20), api.Store{}, 9) {
		t.Error("huge")
	}
	if Formed([]api.Lookup{rules(api.Move, rule(make([]int, 1<<20), 0, 0, 0))}, api.Store{}, 9) {
		t.Error("huge In")
	}
}

// TestMemory: what is handed in is left as it is, its spare room too, and what is answered is new.
func TestMemory(t *testing.T) {
	x := Scene{hill(), []bool{9: true}, []int{4096}}
	l := []api.Lookup{
		rules(api.Move, rule([]int{1}, 1, 2, 3)),
		rules(api.Kern, rule([]int{1, 9}, 1, 2, 3)),
		rules(api.Anchor, rule([]int{1, 9}, 1, 2, 0)),
		rules(api.Single),
	}
	room := placed([][4]int{{1, 1, 1, 1}, {9, 2, 2, 2}, {1, 3, 3, 3}, {1, 4, 4, 4}, {9, 5, 5, 5}})
	whole := slices.Clone(room)
	looks := []int{0, 1, 2, 3, 7}
	for n := range len(looks) {
		first, _ := All(l, looks[:n], x, room[:3])
		second := slices.Clone(first)
		clear(first[:cap(first)])
		third, _ := All(l, looks[:n], x, room[:3])
		if !slices.Equal(second, third) || !slices.Equal(room, whole) || !slices.Equal(looks, []int{0, 1, 2, 3, 7}) {
			t.Error("All", n, room)
		}
	}
	line, advances := []int{1, 2, 3, 4}, []int{5, 6, 7, 8}
	out := Lay(line[:2], advances[:3])
	clear(out[:cap(out)])
	if !slices.Equal(line, []int{1, 2, 3, 4}) || !slices.Equal(advances, []int{5, 6, 7, 8}) {
		t.Error("Lay", line, advances)
	}
}

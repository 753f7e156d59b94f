package glyphs

import (
	"math"
	"math/rand"
	"slices"
	"testing"

	"foundry/api"
	"foundry/store"
	"foundry/tuples"
)

func slope() api.Tent { return api.Tent{Peak: 16384, End: 16384} }

func region(l ...api.Tent) []api.Tent { return l }

// still is a number that doesn't change.
func still(base int) api.Slot { return api.Slot{Base: base, Row: api.None} }

func drawn(contours ...[]api.Point) api.Glyph {
	return api.Glyph{Outline: api.Outline{Contours: contours}, Advance: still(0)}
}

func made(parts ...api.Part) api.Glyph {
	return api.Glyph{Outline: api.Outline{Parts: parts}, Advance: still(0)}
}

// of is a part, not moved.
func of(g int) api.Part { return api.Part{Glyph: g} }

// dots is a contour of n points, which all differ from their neighbours.
func dots(n int) []api.Point {
	var l []api.Point
	for i := range n {
		l = append(l, api.Point{X: i * 3, Y: i % 7, On: i%2 == 0})
	}
	return l
}

// oneAxis is a store of one region of one axis, and two rows.
func oneAxis() api.Store {
	return api.Store{Regions: [][]api.Tent{region(slope())}, Rows: [][]int{{-100}, {30000}}}
}

// family is formed glyphs of one axis: a stem, one with two of these, one with that, an empty one.
func family() []api.Glyph {
	stem := drawn([]api.Point{{X: 1, Y: 2, On: true}, {X: -9, Y: 40}}, []api.Point{{X: 300, Y: 300, On: true}})
	stem.Tuples = []api.Tuple{{Region: region(slope()), All: true, DX: []int{10, 20, 30}, DY: []int{0, 1, -2}}}
	stem.Advance = api.Slot{Base: 500, Row: 0}
	pair := made(api.Part{Glyph: 0, DX: 5}, api.Part{Glyph: 0, DX: -7, DY: 100})
	pair.Tuples = []api.Tuple{{Region: region(slope()), Points: []int{1}, DX: []int{0}, DY: []int{20}}}
	pair.Mark = true
	outer := made(api.Part{Glyph: 3, DX: 1}, api.Part{Glyph: 1, DX: 1000, DY: -1000})
	outer.Advance = api.Slot{Base: 32000, Row: 1}
	return []api.Glyph{stem, pair, outer, drawn()}
}

// chain is n glyphs, the first one without parts, each other one with the one ahead as its part.
func chain(n int) []api.Glyph {
	l := []api.Glyph{drawn(dots(2))}
	for i := 1; i < n; i++ {
		l = append(l, made(of(i-1)))
	}
	return l
}

// tree is a glyph, and depth others, each with the one ahead as all of so many parts.
func tree(first api.Glyph, parts, depth int) []api.Glyph {
	l := []api.Glyph{first}
	for i := range depth {
		l = append(l, made(slices.Repeat([]api.Part{{Glyph: i, DX: 1, DY: -1}}, parts)...))
	}
	return l
}

// depthOf tells the depth by the chapter's words, of a list that is small.
func depthOf(l []api.Glyph, g, under int) int {
	if g < 0 || g >= len(l) || under > 6 {
		return -1
	}
	depth := 0
	for _, p := range l[g].Outline.Parts {
		d := depthOf(l, p.Glyph, under+1)
		if d < 0 {
			return -1
		}
		depth = max(depth, d+1)
	}
	return depth
}

// sizeOf tells the size by the chapter's words, of a glyph that has a depth.
func sizeOf(l []api.Glyph, g int) int {
	size := len(slices.Concat(l[g].Outline.Contours...))
	for _, p := range l[g].Outline.Parts {
		size += sizeOf(l, p.Glyph)
	}
	return size
}

// contoursOf tells the contours by the chapter's words, moved so far: each point is moved once.
func contoursOf(l []api.Glyph, g int, coords []int, x, y int) ([][]api.Point, api.Errno) {
	o, e := tuples.At(l[g].Outline, l[g].Tuples, coords)
	if e != api.OK {
		return nil, e
	}
	var all [][]api.Point
	for _, contour := range o.Contours {
		var points []api.Point
		for _, p := range contour {
			points = append(points, api.Point{X: x + p.X, Y: y + p.Y, On: p.On})
		}
		all = append(all, points)
	}
	for _, p := range o.Parts {
		within, e := contoursOf(l, p.Glyph, coords, x+p.DX, y+p.DY)
		if e != api.OK {
			return nil, e
		}
		all = append(all, within...)
	}
	return all, api.OK
}

func sameContours(a, b [][]api.Point) bool { return slices.EqualFunc(a, b, slices.Equal) }

// expectDepth fails unless glyph g has this depth and this size; below 0: no depth.
func expectDepth(t *testing.T, name string, l []api.Glyph, g, depth, size int) {
	t.Helper()
	if d, s := Depth(l, g), Size(l, g); d != depth || s != size {
		t.Errorf("%s: glyph %d has depth %d and size %d, not %d and %d", name, g, d, s, depth, size)
	}
}

// expectAt fails unless At answers what the chapter's words tell.
func expectAt(t *testing.T, name string, l []api.Glyph, g int, coords []int) {
	t.Helper()
	want, fault := [][]api.Point(nil), api.ErrNone
	switch {
	case g < 0 || g >= len(l):
	case depthOf(l, g, 0) < 0:
		fault = api.ErrDepth
	case sizeOf(l, g) > 2000:
		fault = api.ErrLong
	default:
		want, fault = contoursOf(l, g, coords, 0, 0)
	}
	if c, e := At(l, g, coords); e != fault || !sameContours(c, want) {
		t.Errorf("%s: glyph %d at %v: %v, error %d, not %v, error %d", name, g, coords, c, e, want, fault)
	}
}

// expectError fails unless At answers this error, and nothing beside it.
func expectError(t *testing.T, name string, l []api.Glyph, g int, coords []int, fault api.Errno) {
	t.Helper()
	if c, e := At(l, g, coords); e != fault || len(c) != 0 {
		t.Errorf("%s: glyph %d at %v: %v, error %d, not %d", name, g, coords, c, e, fault)
	}
}

// expectRefused fails unless the glyphs aren't formed, and so aren't written.
func expectRefused(t *testing.T, name string, l []api.Glyph, s api.Store, axes int) {
	t.Helper()
	if Formed(l, s, axes) {
		t.Error(name, "is formed")
	}
	if b, e := Write(l, s, axes); e != api.ErrForm || len(b) != 0 {
		t.Error(name, "is written", len(b), e)
	}
}

// expectFormed fails unless they are formed, and are written and read again.
func expectFormed(t *testing.T, name string, l []api.Glyph, s api.Store, axes int) {
	t.Helper()
	if !Formed(l, s, axes) {
		t.Error(name, "isn't formed")
	}
	b, e := Write(l, s, axes)
	if m, f := Read(b, s, axes); e != api.OK || f != api.OK || !alike(l, m) {
		t.Error(name, "isn't written and read", e, f)
	}
}

func TestExample(t *testing.T) {
	l := []api.Glyph{drawn([]api.Point{{X: 1, Y: 2, On: true}, {X: 3, Y: 4}}), made(api.Part{Glyph: 0, DX: 5})}
	c, e := At(l, 1, nil)
	if e != api.OK || !sameContours(c, [][]api.Point{{{X: 6, Y: 2, On: true}, {X: 8, Y: 4}}}) {
		t.Error(c, e)
	}
	if d := Depth([]api.Glyph{made(of(0))}, 0); d != -1 {
		t.Error("a part of itself:", d)
	}
}

func TestDepthAndSize(t *testing.T) {
	l := family()
	for g, want := range [][2]int{{0, 3}, {1, 6}, {2, 6}, {0, 0}} {
		expectDepth(t, "family", l, g, want[0], want[1])
	}
	for _, g := range []int{-1, 4, 65535, math.MinInt, math.MaxInt} {
		expectDepth(t, "no glyph's number", l, g, -1, 0)
		expectDepth(t, "of no glyphs", nil, g, -1, 0)
	}
	expectDepth(t, "of no glyphs", nil, 0, -1, 0)

	l = chain(9)
	for g := range 7 {
		expectDepth(t, "chain", l, g, g, 2)
	}
	expectDepth(t, "one too deep", l, 7, -1, 0)
	expectDepth(t, "two too deep", l, 8, -1, 0)

	// The greatest depth counts, wherever that part stands; what is known of a part must not hide that it is too deep.
	l = append(chain(7), made(of(0), of(5), of(2)), made(of(6), of(0)), made(of(5), of(6)), made(of(0), of(1), of(7)))
	expectDepth(t, "the middle one", l, 7, 6, 6)
	expectDepth(t, "the first one too deep", l, 8, -1, 0)
	expectDepth(t, "the last one too deep", l, 9, -1, 0)
	expectDepth(t, "deep by way of another", l, 10, -1, 0)
}

func TestDepthWithoutEnd(t *testing.T) {
	l := []api.Glyph{made(of(0)), made(of(2)), made(of(3)), made(of(1)), made(of(5), of(1)), drawn(dots(3)), made(of(5), of(5))}
	for g := range 5 {
		expectDepth(t, "round", l, g, -1, 0)
		expectError(t, "round", l, g, nil, api.ErrDepth)
	}
	expectDepth(t, "beside a round", l, 5, 0, 3)
	expectDepth(t, "beside a round", l, 6, 1, 6)
	for _, g := range []int{-1, 3, 65535, math.MinInt, math.MaxInt} {
		l = []api.Glyph{drawn(dots(3)), made(of(0), of(g)), made(of(1))}
		expectDepth(t, "not there", l, 0, 0, 3)
		expectDepth(t, "not there", l, 1, -1, 0)
		expectDepth(t, "not there", l, 2, -1, 0)
		expectError(t, "not there", l, 2, nil, api.ErrDepth)
		expectRefused(t, "not there", l, api.Store{}, 0)
	}
	// An end that is far off, and one that never comes, of great lists.
	expectDepth(t, "long chain", chain(300000), 299999, -1, 0)
	expectDepth(t, "long chain", chain(300000), 6, 6, 2)
	wide := []api.Glyph{drawn(dots(1)), made(slices.Repeat([]api.Part{of(0)}, 300000)...), made(append(slices.Repeat([]api.Part{of(1)}, 300000), of(2))...)}
	expectDepth(t, "wide", wide, 1, 1, 2001)
	expectDepth(t, "wide", wide, 2, -1, 0)
}

func TestSize(t *testing.T) {
	l := tree(drawn(dots(80)), 5, 2)
	expectDepth(t, "just 2000", l, 2, 2, 2000)
	l = append(l, made(of(2)), drawn(dots(1)), made(of(2), of(4)), made(of(2), of(2)))
	expectDepth(t, "just 2000", l, 3, 3, 2000)
	expectDepth(t, "one more", l, 5, 3, 2001)
	expectDepth(t, "twice as many", l, 6, 3, 2001)
	expectDepth(t, "very many", tree(drawn(dots(80)), 6, 6), 6, 6, 2001)
	expectDepth(t, "none at all", tree(drawn(), 6, 6), 6, 6, 0)

	// What isn't formed has a size too: contours that are too many, too long or empty, and parts beside contours.
	both := drawn(dots(4), nil, dots(5))
	both.Outline.Parts = []api.Part{of(1), of(1)}
	expectDepth(t, "contours and parts", []api.Glyph{both, drawn(dots(7))}, 0, 1, 23)
	expectDepth(t, "just 2000 in one", []api.Glyph{drawn(dots(2000))}, 0, 0, 2000)
	expectDepth(t, "2001 in one", []api.Glyph{drawn(dots(2001))}, 0, 0, 2001)
	expectDepth(t, "2002 in many", []api.Glyph{drawn(slices.Repeat([][]api.Point{dots(2)}, 1001)...)}, 0, 0, 2001)
	expectDepth(t, "100000 in one", []api.Glyph{drawn(dots(100000)), made(of(0), of(0))}, 1, 1, 2001)
}

func TestFormed(t *testing.T) {
	expectFormed(t, "family", family(), oneAxis(), 1)
	expectFormed(t, "just 2000", tree(drawn(dots(80)), 5, 2), api.Store{}, 0)
	expectFormed(t, "as deep as may be", chain(7), api.Store{}, 4)
	expectFormed(t, "many within many", tree(drawn(), 6, 6), api.Store{}, 3)
	expectFormed(t, "the least", []api.Glyph{drawn()}, api.Store{}, 0)
	expectFormed(t, "MaxGlyphs", slices.Repeat([]api.Glyph{drawn(dots(1))}, 100), api.Store{}, 0)

	expectRefused(t, "none", nil, api.Store{}, 0)
	expectRefused(t, "one above MaxGlyphs", slices.Repeat([]api.Glyph{drawn(dots(1))}, 101), api.Store{}, 0)
	expectRefused(t, "too deep", chain(8), api.Store{}, 0)
	expectRefused(t, "a part of itself", []api.Glyph{drawn(), made(of(1))}, api.Store{}, 0)
	expectRefused(t, "2001 points", append(tree(drawn(dots(80)), 5, 2), drawn(dots(1)), made(of(2), of(3))), api.Store{}, 0)
	expectRefused(t, "very many points", tree(drawn(dots(80)), 6, 6), api.Store{}, 0)
	for _, axes := range []int{-1, 0, 2, 3, 4, 5, math.MinInt, math.MaxInt} {
		expectRefused(t, "other axes", family(), oneAxis(), axes)
	}
	for _, axes := range []int{-1, 5, math.MinInt, math.MaxInt} {
		expectRefused(t, "no number of axes", chain(2), api.Store{}, axes)
	}
	expectRefused(t, "a row that isn't there", family(), api.Store{Regions: oneAxis().Regions, Rows: oneAxis().Rows[:1]}, 1)
	expectRefused(t, "a row that is too short", family(), api.Store{Regions: oneAxis().Regions, Rows: [][]int{{-100}, {}}}, 1)
	expectRefused(t, "a store of two axes", chain(2), api.Store{Regions: [][]api.Tent{region(slope(), slope())}}, 1)

	changes := []func(g *api.Glyph){
		func(g *api.Glyph) { g.Advance.Base = 32768 },
		func(g *api.Glyph) { g.Advance.Base = -32769 },
		func(g *api.Glyph) { g.Advance.Row = -2 },
		func(g *api.Glyph) { g.Advance.Row = 2 },
		func(g *api.Glyph) { g.Outline.Contours[0][0].X = 32768 },
		func(g *api.Glyph) { g.Outline.Contours[1] = nil },
		func(g *api.Glyph) { g.Outline.Parts = []api.Part{of(3)} },
		func(g *api.Glyph) { g.Tuples[0].DX = g.Tuples[0].DX[:2] },
		func(g *api.Glyph) { g.Tuples[0].DY[0] = -32769 },
		func(g *api.Glyph) { g.Tuples[0].Region[0].Start = 1 << 20 },
		func(g *api.Glyph) { g.Tuples = slices.Repeat(g.Tuples, 41) },
	}
	for i, change := range changes {
		l := append(family()[1:], family()[0])
		change(&l[3])
		expectRefused(t, "change "+string(rune('a'+i)), l, oneAxis(), 1)
		l = family()
		change(&l[0])
		expectRefused(t, "change "+string(rune('a'+i)), l, oneAxis(), 1)
	}
}

func TestAt(t *testing.T) {
	c, e := At(family(), 2, []int{8192})
	want := [][]api.Point{
		{{X: 1011, Y: -998, On: true}, {X: 1006, Y: -959}}, {{X: 1320, Y: -701, On: true}},
		{{X: 999, Y: -888, On: true}, {X: 994, Y: -849}}, {{X: 1308, Y: -591, On: true}},
	}
	if e != api.OK || !sameContours(c, want) {
		t.Error(c, e)
	}
	for g := -2; g < 7; g++ {
		for _, coords := range [][]int{{0}, {1}, {-5461}, {5461}, {16384}, {-16384}, {99999}, nil, {0, 0}, {0, 0, 0, 0, 0}} {
			expectAt(t, "family", family(), g, coords)
		}
	}
	// Where there are no tuples any number of axes is right.
	for axes := range 5 {
		expectAt(t, "chain", chain(7), 6, make([]int, axes))
	}
	expectError(t, "chain of five axes", chain(7), 6, make([]int, 5), api.ErrForm)
	for _, g := range []int{-1, 0, 1, math.MinInt, math.MaxInt} {
		expectError(t, "of none", nil, g, nil, api.ErrNone)
	}
	// A list that isn't formed, for another glyph's sake, has the contours of this one.
	l := append(family(), made(of(4)), drawn(nil), drawn(dots(81)))
	for g := range l {
		expectAt(t, "beside wrong ones", l, g, []int{8192})
	}
	if c, e := At(slices.Repeat(chain(1), 1000), 999, nil); e != api.OK || len(c) != 1 {
		t.Error("more than MaxGlyphs", c, e)
	}
	if c, e := At(tree(drawn(), 6, 6), 6, nil); e != api.OK || len(c) != 0 {
		t.Error("no contours", c, e)
	}
}

func TestAtBeyondFields(t *testing.T) {
	// Only what is stored must be a field: parts that are moved go on beyond.
	l := []api.Glyph{drawn([]api.Point{{X: 32767, Y: -32768, On: true}})}
	for i := range 6 {
		l = append(l, made(api.Part{Glyph: i, DX: 32767, DY: -32768}))
	}
	for g := range l {
		c, e := At(l, g, nil)
		if e != api.OK || !sameContours(c, [][]api.Point{{{X: (g + 1) * 32767, Y: (g + 1) * -32768, On: true}}}) {
			t.Error(g, c, e)
		}
	}
	// A part's own change is rounded by itself, and a point's by itself.
	half := api.Tuple{Region: region(slope()), All: true, DX: []int{1}, DY: []int{-1}}
	dot := drawn(dots(1))
	dot.Tuples = []api.Tuple{half}
	outer := made(of(0))
	outer.Tuples = []api.Tuple{half}
	if c, e := At([]api.Glyph{dot, outer}, 1, []int{8192}); e != api.OK || c[0][0] != (api.Point{X: 2, On: true}) {
		t.Error(c, e)
	}
	// A part that leaves its field does not wait for what is within.
	outer.Outline.Parts[0].DX = 32767
	expectError(t, "a part beyond", []api.Glyph{dot, outer}, 1, []int{16384}, api.ErrRange)
	expectAt(t, "a part within", []api.Glyph{dot, outer}, 1, []int{8191})
}

func TestAtErrorsInOrder(t *testing.T) {
	far := drawn([]api.Point{{X: 32767}})
	far.Tuples = []api.Tuple{{Region: region(slope()), All: true, DX: []int{1}, DY: []int{0}}}
	wrong := drawn(nil)
	none, half, most := []int{0}, []int{8191}, []int{16384}

	l := []api.Glyph{far, wrong, made(of(0), of(1)), made(of(1), of(0)), made(of(2), of(1)), made(of(3), of(0))}
	for g, want := range []api.Errno{api.ErrRange, api.ErrForm, api.ErrRange, api.ErrForm, api.ErrRange, api.ErrForm} {
		expectError(t, "first error", l, g, most, want)
	}
	expectAt(t, "no error", l, 0, half)
	expectError(t, "first error", l, 2, half, api.ErrForm)
	expectError(t, "other axes", l, 2, nil, api.ErrForm)

	// The glyph's own comes ahead of its parts'; a part's parts ahead of the next part.
	outer := made(of(0), of(1))
	outer.Tuples = []api.Tuple{{Region: region(slope()), All: true, DX: []int{0}, DY: []int{0}}}
	expectError(t, "own error first", append(l, outer), 6, most, api.ErrForm)
	outer = made(api.Part{Glyph: 1, DY: -32768})
	outer.Tuples = []api.Tuple{{Region: region(slope()), All: true, DX: []int{0}, DY: []int{-1}}}
	expectError(t, "own error first", append(l, outer), 6, most, api.ErrRange)
	expectError(t, "then the part's", append(l, outer), 6, none, api.ErrForm)
	expectError(t, "depth first", []api.Glyph{made(of(2), of(1), of(3)), far, made(of(1)), wrong}, 0, most, api.ErrRange)

	// No such glyph, no depth, too long, ahead of what layer 14 says.
	long := []api.Glyph{drawn(dots(2001)), made(of(0), of(1)), made(of(0)), drawn(dots(2000))}
	expectError(t, "no glyph", long, 4, nil, api.ErrNone)
	expectError(t, "no depth", long, 1, nil, api.ErrDepth)
	expectError(t, "too long", long, 0, nil, api.ErrLong)
	expectError(t, "too long", long, 2, nil, api.ErrLong)
	expectError(t, "just not too long, but not formed", long, 3, nil, api.ErrForm)
	expectError(t, "too long by many", tree(wrong, 6, 6), 6, nil, api.ErrForm)
	expectError(t, "too long by many", tree(drawn(dots(80)), 6, 6), 6, make([]int, 9), api.ErrLong)
}

func TestAtOfManyWithinMany(t *testing.T) {
	// 6^6 parts in all, each level with changes of its own: each glyph must be reckoned once.
	l := tree(drawn(), 6, 6)
	for i := range l[1:] {
		g := &l[i+1]
		for j := range 40 {
			tent := api.Tent{Peak: 16384 - 2*j - 1, End: 16384}
			g.Tuples = append(g.Tuples, api.Tuple{Region: region(tent), All: true, DX: dropped(j), DY: dropped(-j)})
		}
	}
	if c, e := At(l, 6, []int{5461}); e != api.OK || len(c) != 0 {
		t.Error(c, e)
	}
	// As many points as there may be, most of them deep within.
	l = append(tree(drawn(dots(1)), 6, 4), made(of(4), of(3), of(3), of(3)), drawn(dots(56)), made(of(5), of(6)))
	expectDepth(t, "2000 points", l, 7, 6, 2000)
	expectAt(t, "2000 points", l, 7, nil)
}

// dropped is six numbers, beginning with n.
func dropped(n int) []int { return []int{n, 1, 2, 3, 4, 5} }

func TestWhatFollows(t *testing.T) {
	l := family()
	for _, at := range []int{-16384, -1, 0, 7, 8192, 16384} {
		for g := range l {
			plain, e := At(l, g, []int{at})
			if e != api.OK {
				t.Error("formed glyphs have contours:", g, at, e)
			}
			c, e := At(append(l, made(api.Part{Glyph: g, DX: -3, DY: 11})), len(l), []int{at})
			if e != api.OK || !sameContours(c, moved(plain, api.Part{DX: -3, DY: 11})) {
				t.Error("a glyph that is one part:", g, at, c, e)
			}
		}
	}
}

func TestAdvance(t *testing.T) {
	l, s := family(), oneAxis()
	for _, c := range []struct{ g, at, want int }{{0, 8192, 450}, {0, 0, 500}, {0, 82, 499}, {0, 83, 499}, {0, 16384, 400}, {1, 8192, 0}, {2, 0, 32000}, {2, 419, 32767}} {
		if n, e := Advance(l, s, c.g, []int{c.at}); n != c.want || e != api.OK {
			t.Error(c, n, e)
		}
	}
	expect := func(name string, l []api.Glyph, s api.Store, g, at int, want api.Errno) {
		t.Helper()
		if n, e := Advance(l, s, g, []int{at}); n != 0 || e != want {
			t.Error(name, n, e)
		}
	}
	expect("beyond the field", l, s, 2, 420, api.ErrRange)
	expect("no such row", l, api.Store{}, 0, 0, api.ErrForm)
	for _, g := range []int{-1, 4, math.MinInt, math.MaxInt} {
		expect("no glyph", l, s, g, 0, api.ErrNone)
	}
	expect("of no glyphs", nil, s, 0, 0, api.ErrNone)
	// Only the advance is asked: a glyph without a depth has one too.
	l[0] = made(of(0))
	l[0].Advance = api.Slot{Base: -5, Row: 0}
	for _, coords := range [][]int{nil, {16384}, {99999}, {16384, 1, 2, 3, 4, 5}} {
		want, fault := store.Rounded(s, l[0].Advance, coords)
		if n, e := Advance(l, s, 0, coords); n != want || e != fault {
			t.Error(coords, n, e)
		}
	}
}

// randomGlyphs is up to eight glyphs of one axis, whose parts are mostly there, and mostly come to an end.
func randomGlyphs(r *rand.Rand) []api.Glyph {
	var l []api.Glyph
	n := 1 + r.Intn(8)
	for i := range n {
		g := drawn()
		if r.Intn(3) == 0 || i == 0 {
			for range r.Intn(3) {
				g.Outline.Contours = append(g.Outline.Contours, dots(1+r.Intn(40)))
			}
		} else {
			for range 1 + r.Intn(3) {
				within := r.Intn(i)
				if r.Intn(20) == 0 {
					within = r.Intn(n + 1)
				}
				g.Outline.Parts = append(g.Outline.Parts, api.Part{Glyph: within, DX: r.Intn(100) - 50, DY: r.Intn(100) - 50})
			}
		}
		count := len(slices.Concat(g.Outline.Contours...)) + len(g.Outline.Parts)
		for range r.Intn(3) {
			g.Tuples = append(g.Tuples, randomTuple(r, count))
		}
		g.Advance, g.Mark = api.Slot{Base: r.Intn(65536) - 32768, Row: r.Intn(3) - 1}, r.Intn(2) == 0
		l = append(l, g)
	}
	return l
}

// randomTuple is a tuple of one axis, of all points or of one; now and then with a change that is great.
func randomTuple(r *rand.Rand, count int) api.Tuple {
	numbers := func(n int) []int {
		var l []int
		for range n {
			l = append(l, r.Intn(200)-100)
		}
		if n > 0 && r.Intn(30) == 0 {
			l[0] = 32767
		}
		return l
	}
	if count == 0 || r.Intn(2) == 0 {
		return api.Tuple{Region: region(slope()), All: true, DX: numbers(count), DY: numbers(count)}
	}
	return api.Tuple{Region: region(slope()), Points: []int{r.Intn(count)}, DX: numbers(1), DY: numbers(1)}
}

func TestRandom(t *testing.T) {
	r := rand.New(rand.NewSource(15))
	formed := 0
	for range 3000 {
		l := randomGlyphs(r)
		coords := []int{r.Intn(32769) - 16384}
		right := true
		for g := range l {
			depth, size := depthOf(l, g, 0), 0
			if depth >= 0 {
				size = min(sizeOf(l, g), 2001)
			}
			expectDepth(t, "random", l, g, depth, size)
			expectAt(t, "random", l, g, coords)
			right = right && depth >= 0 && size <= 2000
		}
		if Formed(l, oneAxis(), 1) != right {
			t.Error("formed or not", l)
		}
		if right {
			formed++
			expectFormed(t, "random", l, oneAxis(), 1)
		}
	}
	if formed < 500 || formed > 2900 {
		t.Error("formed", formed)
	}
}

// spared is the list with room behind it that must stay as it is.
func spared[T any](l []T) []T {
	room := make([]T, len(l), len(l)+2)
	copy(room, l)
	return room
}

func TestMemory(t *testing.T) {
	l, coords := spared(family()), spared([]int{8192})
	for i := range l {
		l[i].Outline.Contours, l[i].Outline.Parts = spared(l[i].Outline.Contours), spared(l[i].Outline.Parts)
		for j := range l[i].Outline.Contours {
			l[i].Outline.Contours[j] = spared(l[i].Outline.Contours[j])
		}
	}
	c, e := At(l, 2, coords)
	if e != api.OK {
		t.Fatal(e)
	}
	want, _ := At(family(), 2, coords)
	// The contours come of one glyph, twice: each must be written on without the other.
	for i := range c {
		for j := range c[i] {
			c[i][j].X += 1 + i
			want[i][j].X += 1 + i
		}
		_ = append(c[i], api.Point{X: 12345})
	}
	if !sameContours(c, want) {
		t.Error("contours share memory", c)
	}
	single, _ := At(l, 0, []int{0})
	single[0][0].X = 777
	_ = append(single, nil)
	_ = append(single[0], api.Point{X: 777})
	b, _ := Write(l, oneAxis(), 1)
	copyOf := slices.Clone(b)
	read, _ := Read(b, oneAxis(), 1)
	for i := range b {
		b[i] = 255
	}
	if again, e := Write(read, oneAxis(), 1); e != api.OK || !slices.Equal(again, copyOf) {
		t.Error("what was read hangs on the bytes", e)
	}
	if !alike(l, family()) || !slices.Equal(coords[:3], []int{8192, 0, 0}) {
		t.Error("arguments changed")
	}
	for _, g := range l[:6][4:] {
		if !sameGlyph(g, api.Glyph{}) {
			t.Error("spare room changed")
		}
	}
	for _, g := range l[:4] {
		for _, contour := range g.Outline.Contours {
			if !slices.Equal(contour[:len(contour)+2][len(contour):], make([]api.Point, 2)) {
				t.Error("spare room changed")
			}
		}
	}
}

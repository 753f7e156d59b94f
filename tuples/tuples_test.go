package tuples

import (
	"math"
	"math/big"
	"math/rand"
	"slices"
	"testing"

	"foundry/api"
	"foundry/infer"
	"foundry/ratio"
	"foundry/tents"
)

// Tents that regions are made of.
func slope() api.Tent { return api.Tent{Peak: 16384, End: 16384} }
func hill() api.Tent  { return api.Tent{Peak: 8192, End: 16384} }
func below() api.Tent { return api.Tent{Start: -16384, Peak: -8192} }

func drawn(contours ...[]api.Point) api.Outline { return api.Outline{Contours: contours} }

func made(parts ...api.Part) api.Outline { return api.Outline{Parts: parts} }

func region(l ...api.Tent) []api.Tent { return l }

// square is two contours: a square with a point on a side, and three points on a line.
func square() api.Outline {
	return drawn(
		[]api.Point{{On: true}, {X: 100, On: true}, {X: 100, Y: 100, On: true}, {X: 25, Y: 100}, {Y: 100, On: true}},
		[]api.Point{{X: 10, Y: 5}, {X: 20, Y: 5}, {X: 40, Y: 5, On: true}},
	)
}

func threeParts() api.Outline {
	return made(api.Part{Glyph: 3, DX: 10, DY: -20}, api.Part{Glyph: 65535}, api.Part{DX: -32768, DY: 32767})
}

// mixed is tuples of the square, for two axes; the second one holds everywhere.
func mixed() []api.Tuple {
	return []api.Tuple{
		{Region: region(slope(), hill()), Points: []int{0, 2, 7}, DX: []int{-10, 30, 5}, DY: []int{1, 0, -300}},
		{Region: region(api.Tent{}, api.Tent{}), Points: []int{6}, DX: []int{7}, DY: []int{0}},
		{Region: region(below(), api.Tent{}), All: true, DX: []int{1, 2, 3, 4, 5, 6, 7, 8}, DY: []int{0, 0, 0, 0, -8, 128, 32767, -32768}},
	}
}

// partly is a tuple of one axis, of these points.
func partly(points, dx, dy []int) api.Tuple {
	return api.Tuple{Region: region(slope()), Points: points, DX: dx, DY: dy}
}

// wholly is one of all.
func wholly(dx, dy []int) api.Tuple {
	return api.Tuple{Region: region(slope()), All: true, DX: dx, DY: dy}
}

// copied is tuples in other memory.
func copied(l []api.Tuple) []api.Tuple {
	var c []api.Tuple
	for _, t := range l {
		c = append(c, api.Tuple{Region: slices.Clone(t.Region), All: t.All, Points: slices.Clone(t.Points), DX: slices.Clone(t.DX), DY: slices.Clone(t.DY)})
	}
	return c
}

// same is whether two tuples hold the same, lists without elements being all one.
func same(t, u api.Tuple) bool {
	return t.All == u.All && slices.Equal(t.Region, u.Region) && slices.Equal(t.Points, u.Points) && slices.Equal(t.DX, u.DX) && slices.Equal(t.DY, u.DY)
}

func alike(l, m []api.Tuple) bool { return slices.EqualFunc(l, m, same) }

func sameOutline(o, p api.Outline) bool {
	return slices.EqualFunc(o.Contours, p.Contours, slices.Equal) && slices.Equal(o.Parts, p.Parts)
}

func isField(n int) bool { return n >= -32768 && n <= 32767 }

// wellFormed asks the chapter's words of tuples one by one, of an outline that is formed.
func wellFormed(o api.Outline, l []api.Tuple, axes int) bool {
	if axes < 0 || axes > 4 || len(l) > 40 {
		return false
	}
	count := len(slices.Concat(o.Contours...)) + len(o.Parts)
	for _, t := range l {
		asked := len(t.Points)
		if t.All {
			asked = count
		}
		wrongPoint := func(p int) bool { return p < 0 || p >= count }
		sorted := slices.Compact(slices.Sorted(slices.Values(t.Points)))
		switch {
		case len(t.Region) != axes || slices.ContainsFunc(t.Region, func(x api.Tent) bool { return !tents.Formed(x) }):
			return false
		case t.All == (len(t.Points) > 0) || !slices.Equal(sorted, t.Points) || slices.ContainsFunc(t.Points, wrongPoint):
			return false
		case len(t.DX) != asked || len(t.DY) != asked:
			return false
		case slices.ContainsFunc(slices.Concat(t.DX, t.DY), func(n int) bool { return !isField(n) }):
			return false
		}
	}
	return true
}

// expectRefused fails unless all calls say that the tuples aren't formed for o and so many axes.
func expectRefused(t *testing.T, name string, o api.Outline, l []api.Tuple, axes int) {
	t.Helper()
	if Formed(o, l, axes) {
		t.Error(name, "is formed")
	}
	if b, e := Write(o, l, axes); e != api.ErrForm || len(b) != 0 {
		t.Error(name, "is written", b, e)
	}
	if axes < 0 || axes > 100 {
		return
	}
	for _, c := range []int{0, 1, -8192, 16384, 99999} {
		coords := slices.Repeat([]int{c}, axes)
		if x, y, e := Exact(o, l, coords); e != api.ErrForm || len(x)+len(y) != 0 {
			t.Error(name, "is exact", x, y, e)
		}
		if p, e := At(o, l, coords); e != api.ErrForm || !sameOutline(p, api.Outline{}) {
			t.Error(name, "is", p, e)
		}
	}
}

func expectFormed(t *testing.T, name string, o api.Outline, l []api.Tuple, axes int) {
	t.Helper()
	if !Formed(o, l, axes) || !wellFormed(o, l, axes) {
		t.Error(name, "isn't formed")
	}
	if _, e := Write(o, l, axes); e != api.OK {
		t.Error(name, "isn't written", e)
	}
	if x, y, e := Exact(o, l, make([]int, axes)); e != api.OK || len(x) != infer.Count(o) || len(y) != infer.Count(o) {
		t.Error(name, "isn't exact", e)
	}
}

func TestFormed(t *testing.T) {
	expectFormed(t, "mixed", square(), mixed(), 2)
	for axes := range 5 {
		everywhere := api.Tuple{Region: make([]api.Tent, axes), Points: []int{0}, DX: []int{1}, DY: []int{2}}
		for _, n := range []int{0, 1, 2, 39, 40} {
			expectFormed(t, "many", square(), slices.Repeat([]api.Tuple{everywhere}, n), axes)
			expectFormed(t, "many of parts", threeParts(), slices.Repeat([]api.Tuple{everywhere}, n), axes)
		}
		for _, o := range []api.Outline{{}, square(), threeParts(), drawn([][]api.Point{}...)} {
			expectFormed(t, "none", o, nil, axes)
			expectFormed(t, "none", o, []api.Tuple{}, axes)
		}
	}
	edge := []int{-32768, 32767, 0}
	for _, o := range []api.Outline{threeParts(), drawn(make([]api.Point, 3)), drawn(make([]api.Point, 2), make([]api.Point, 1))} {
		expectFormed(t, "all", o, []api.Tuple{wholly(edge, edge)}, 1)
		expectFormed(t, "all, named", o, []api.Tuple{partly([]int{0, 1, 2}, edge, edge)}, 1)
		expectFormed(t, "the last one", o, []api.Tuple{partly([]int{2}, []int{5}, []int{6})}, 1)
		expectFormed(t, "empty points", o, []api.Tuple{{Region: region(hill()), All: true, Points: []int{}, DX: edge, DY: edge}}, 1)
	}
	expectFormed(t, "all of nothing", api.Outline{}, []api.Tuple{wholly(nil, nil), wholly([]int{}, []int{})}, 1)
	full := drawn(slices.Repeat([][]api.Point{make([]api.Point, 8)}, 10)...)
	expectFormed(t, "80 points", full, []api.Tuple{wholly(make([]int, 80), make([]int, 80)), partly([]int{79}, []int{1}, []int{1})}, 1)
}

// wrongTuples are tuples that aren't right for an outline with three points or parts, and one axis.
func wrongTuples() map[string]api.Tuple {
	three, two, one := []int{1, 2, 3}, []int{4, 5}, []int{6}
	with := func(l ...api.Tent) api.Tuple {
		return api.Tuple{Region: l, Points: one[:0:0], All: true, DX: three, DY: three}
	}
	return map[string]api.Tuple{
		"the zero tuple":             {},
		"no points":                  partly(nil, nil, nil),
		"no points, all changes":     partly(nil, three, three),
		"all and some":               {Region: region(slope()), All: true, Points: []int{0}, DX: three, DY: three},
		"all and one":                {Region: region(slope()), All: true, Points: []int{0}, DX: one, DY: one},
		"all, named too":             {Region: region(slope()), All: true, Points: []int{0, 1, 2}, DX: three, DY: three},
		"all without changes":        wholly(nil, nil),
		"all with too few DX":        wholly(two, three),
		"all with too few DY":        wholly(three, two),
		"all with too few":           wholly(two, two),
		"all with too many DX":       wholly([]int{1, 2, 3, 4}, three),
		"all with too many DY":       wholly(three, []int{1, 2, 3, 4}),
		"all with too many":          wholly([]int{1, 2, 3, 4}, []int{1, 2, 3, 4}),
		"some with too few DX":       partly([]int{0, 2}, one, two),
		"some with too few DY":       partly([]int{0, 2}, two, one),
		"some with too many DX":      partly([]int{0, 2}, three, two),
		"some with too many DY":      partly([]int{0, 2}, two, three),
		"some with all changes":      partly([]int{0, 2}, three, three),
		"some without DX":            partly([]int{0}, nil, one),
		"some without DY":            partly([]int{0}, one, nil),
		"a point below 0":            partly([]int{-1, 2}, two, two),
		"a point beyond":             partly([]int{0, 3}, two, two),
		"a point far beyond":         partly([]int{1 << 16}, one, one),
		"the least point":            partly([]int{math.MinInt}, one, one),
		"the greatest point":         partly([]int{math.MaxInt}, one, one),
		"a point twice":              partly([]int{1, 1}, two, two),
		"falling points":             partly([]int{2, 1}, two, two),
		"points that fall at last":   partly([]int{0, 2, 1}, three, three),
		"DX too great":               partly([]int{0, 1}, []int{0, 32768}, two),
		"DX too small":               partly([]int{0, 1}, []int{-32769, 0}, two),
		"DY too great":               partly([]int{0, 1}, two, []int{32768, 0}),
		"DY too small":               partly([]int{0, 1}, two, []int{0, -32769}),
		"DX that wraps":              wholly([]int{0, 0, 1 << 16}, three),
		"DY that wraps":              wholly(three, []int{1<<32 + 5, 0, 0}),
		"the greatest DX":            wholly([]int{math.MaxInt, 0, 0}, three),
		"the least DY":               wholly(three, []int{0, math.MinInt, 0}),
		"no region":                  with(),
		"a region of two":            with(slope(), slope()),
		"a tent that jumps":          with(api.Tent{Peak: 5, End: 5}),
		"a tent across 0":            with(api.Tent{Start: -1, Peak: 5, End: 6}),
		"a tent that ends alone":     with(api.Tent{End: 5}),
		"a tent that leaves":         with(api.Tent{Peak: 16384, End: 16385}),
		"a tent that falls, then on": with(api.Tent{Start: 6, Peak: 5, End: 7}),
	}
}

func TestFormedOfWrongTuples(t *testing.T) {
	right := wholly([]int{1, 2, 3}, []int{1, 2, 3})
	for name, wrong := range wrongTuples() {
		for _, o := range []api.Outline{threeParts(), drawn(make([]api.Point, 3)), drawn(make([]api.Point, 1), make([]api.Point, 2))} {
			expectRefused(t, name, o, []api.Tuple{wrong}, 1)
			for i := range 3 {
				l := []api.Tuple{right, right, right}
				expectFormed(t, name+": others", o, l, 1)
				l[i] = wrong
				expectRefused(t, name, o, l, 1)
				if wellFormed(o, l, 1) {
					t.Error(name)
				}
			}
			l := slices.Repeat([]api.Tuple{right}, 40)
			l[39] = wrong
			expectRefused(t, name+", the last of 40", o, l, 1)
		}
	}
}

func TestFormedOfManyAndAxes(t *testing.T) {
	for axes := range 5 {
		l := []api.Tuple{{Region: make([]api.Tent, axes), All: true, DX: make([]int, 8), DY: make([]int, 8)}}
		for asked := -2; asked <= 8; asked++ {
			if asked == axes {
				expectFormed(t, "axes", square(), l, asked)
			} else {
				expectRefused(t, "axes", square(), l, asked)
			}
		}
		for _, n := range []int{41, 42, 1000} {
			expectRefused(t, "too many", square(), slices.Repeat(l, n), axes)
		}
	}
	for _, axes := range []int{math.MinInt, -65536, -1, 5, 6, 65536, math.MaxInt} {
		expectRefused(t, "no such axes", square(), nil, axes)
		expectRefused(t, "no such axes", api.Outline{}, nil, axes)
	}
	for _, axes := range []int{5, 6, 100} {
		l := []api.Tuple{{Region: make([]api.Tent, axes), All: true, DX: make([]int, 8), DY: make([]int, 8)}}
		expectRefused(t, "too many axes", square(), l, axes)
	}
}

// unformed is outlines that aren't formed.
func unformed() []api.Outline {
	one := []api.Point{{}}
	return []api.Outline{
		drawn(nil), drawn(one, nil), drawn(nil, one), drawn(make([]api.Point, 81)), drawn(make([]api.Point, 40), make([]api.Point, 41)),
		drawn(slices.Repeat([][]api.Point{one}, 11)...), drawn([]api.Point{{X: 32768}}), drawn([]api.Point{{Y: -32769}}),
		made(make([]api.Part, 7)...), made(api.Part{Glyph: -1}), made(api.Part{Glyph: 65536}), made(api.Part{DX: 32768}), made(api.Part{DY: -32769}),
		{Contours: [][]api.Point{one}, Parts: make([]api.Part, 1)}, drawn(make([]api.Point, 100000)),
	}
}

func TestFormedOfUnformedOutlines(t *testing.T) {
	for _, o := range unformed() {
		n := infer.Count(o)
		for axes := range 5 {
			expectRefused(t, "an outline", o, nil, axes)
		}
		expectRefused(t, "an outline", o, []api.Tuple{wholly(make([]int, n), make([]int, n))}, 1)
		expectRefused(t, "an outline", o, []api.Tuple{partly([]int{0}, []int{1}, []int{2})}, 1)
	}
}

func rat(t *testing.T, x ratio.Ratio) *big.Rat {
	t.Helper()
	r, ok := new(big.Rat).SetString(ratio.Text(x))
	if !ok || !ratio.Formed(x) {
		t.Error("not formed:", x)
		return new(big.Rat)
	}
	return r
}

// texts is how fractions are written, of which none may be other than formed.
func texts(t *testing.T, l []ratio.Ratio) []string {
	t.Helper()
	var told []string
	for _, x := range l {
		told = append(told, rat(t, x).RatString())
	}
	return told
}

func rats(t *testing.T, l []ratio.Ratio) []*big.Rat {
	t.Helper()
	var of []*big.Rat
	for _, x := range l {
		of = append(of, rat(t, x))
	}
	return of
}

// model is the exact numbers at coordinates, tuple by tuple, by another library's fractions; the changes and the parts are those of the layers below.
func model(t *testing.T, o api.Outline, l []api.Tuple, coords []int) (x, y []*big.Rat) {
	t.Helper()
	whole := func(n int) *big.Rat { return big.NewRat(int64(n), 1) }
	for _, c := range o.Contours {
		for _, p := range c {
			x, y = append(x, whole(p.X)), append(y, whole(p.Y))
		}
	}
	for _, p := range o.Parts {
		x, y = append(x, whole(p.DX)), append(y, whole(p.DY))
	}
	for _, u := range l {
		points := u.Points
		for i := 0; u.All && i < len(x); i++ {
			points = append(points, i)
		}
		dx, dy, e := infer.Spread(o, points, u.DX, u.DY)
		if e != api.OK {
			t.Fatal(o, u, e)
		}
		part := rat(t, tents.All(u.Region, coords))
		for i := range x {
			x[i].Add(x[i], new(big.Rat).Mul(rat(t, dx[i]), part))
			y[i].Add(y[i], new(big.Rat).Mul(rat(t, dy[i]), part))
		}
	}
	return x, y
}

// half is a number rounded, half towards plus infinity; false, if that is no field.
func half(x *big.Rat) (int, bool) {
	v := new(big.Rat).Add(x, big.NewRat(1, 2))
	// The quotient of Div goes down, as the rest isn't below 0.
	n := new(big.Int).Div(v.Num(), v.Denom())
	if !n.IsInt64() || !isField(int(n.Int64())) {
		return 0, false
	}
	return int(n.Int64()), true
}

// rounds is the outline with these numbers rounded; false, if one is no field then.
func rounds(o api.Outline, x, y []*big.Rat) (api.Outline, bool) {
	fit := true
	next := func() (int, int) {
		a, fitsX := half(x[0])
		b, fitsY := half(y[0])
		x, y, fit = x[1:], y[1:], fit && fitsX && fitsY
		return a, b
	}
	var p api.Outline
	for _, c := range o.Contours {
		c = slices.Clone(c)
		for i := range c {
			c[i].X, c[i].Y = next()
		}
		p.Contours = append(p.Contours, c)
	}
	p.Parts = slices.Clone(o.Parts)
	for i := range p.Parts {
		p.Parts[i].DX, p.Parts[i].DY = next()
	}
	if !fit {
		return api.Outline{}, false
	}
	return p, true
}

func sameRats(l, m []*big.Rat) bool {
	return slices.EqualFunc(l, m, func(x, y *big.Rat) bool { return x.Cmp(y) == 0 })
}

// expectAt fails unless Exact and At answer what the chapter says; it answers whether At answered an outline.
func expectAt(t *testing.T, o api.Outline, l []api.Tuple, coords []int) bool {
	t.Helper()
	wantX, wantY := model(t, o, l, coords)
	x, y, e := Exact(o, l, coords)
	if e != api.OK || !sameRats(rats(t, x), wantX) || !sameRats(rats(t, y), wantY) {
		t.Error(o, l, coords, "is", texts(t, x), texts(t, y), e, "not", wantX, wantY)
	}
	want, fits := rounds(o, wantX, wantY)
	wrong := api.OK
	if !fits {
		wrong = api.ErrRange
	}
	if p, e := At(o, l, coords); e != wrong || !sameOutline(p, want) {
		t.Error(o, l, coords, "is", p, e, "not", want, wrong)
	}
	return fits
}

func TestOfTheChapter(t *testing.T) {
	o, l := drawn([]api.Point{{X: 10}}), []api.Tuple{partly([]int{0}, []int{5}, []int{-3})}
	if p, e := At(o, l, []int{8192}); e != api.OK || !sameOutline(p, drawn([]api.Point{{X: 13, Y: -1}})) {
		t.Error(p, e)
	}
	x, y, e := Exact(o, l, []int{8192})
	if e != api.OK || !slices.Equal(texts(t, x), []string{"25/2"}) || !slices.Equal(texts(t, y), []string{"-3/2"}) {
		t.Error(x, y, e)
	}
}

func TestKnown(t *testing.T) {
	for _, c := range []struct {
		o      api.Outline
		l      []api.Tuple
		coords []int
		x, y   []string
	}{
		{api.Outline{}, nil, nil, nil, nil},
		{api.Outline{}, []api.Tuple{wholly(nil, nil)}, []int{5}, nil, nil},
		{square(), nil, nil, []string{"0", "100", "100", "25", "0", "10", "20", "40"}, []string{"0", "0", "100", "100", "100", "5", "5", "5"}},
		// The first one holds by 1/2 and by 1/2, the second one whole; points that aren't told of are inferred, each contour by itself.
		{square(), mixed(), []int{8192, 4096},
			[]string{"-5/2", "215/2", "215/2", "25", "-5/2", "73/4", "113/4", "193/4"},
			[]string{"1/4", "1/4", "100", "100", "100", "-70", "-70", "-70"}},
		// The third one by 1/2.
		{square(), mixed(), []int{-4096, 4096},
			[]string{"1/2", "101", "203/2", "27", "5/2", "20", "61/2", "51"},
			[]string{"0", "0", "100", "100", "96", "69", "32777/2", "-16379"}},
		{threeParts(), []api.Tuple{partly([]int{1}, []int{3}, []int{5})}, []int{8192}, []string{"10", "3/2", "-32768"}, []string{"-20", "5/2", "32767"}},
		{threeParts(), []api.Tuple{wholly([]int{1, 2, 3}, []int{4, 5, 6})}, []int{16384}, []string{"11", "2", "-32765"}, []string{"-16", "5", "32773"}},
		// Without axes every tuple holds everywhere.
		{threeParts(), []api.Tuple{{Points: []int{0}, DX: []int{1}, DY: []int{2}}}, nil, []string{"11", "0", "-32768"}, []string{"-18", "0", "32767"}},
		// What is no coordinate has no part, not even of what holds everywhere.
		{threeParts(), []api.Tuple{{Region: region(api.Tent{}), Points: []int{0}, DX: []int{1}, DY: []int{2}}}, []int{16385}, []string{"10", "0", "-32768"}, []string{"-20", "0", "32767"}},
		{threeParts(), []api.Tuple{{Region: region(api.Tent{}), Points: []int{0}, DX: []int{1}, DY: []int{2}}}, []int{-16384}, []string{"11", "0", "-32768"}, []string{"-18", "0", "32767"}},
	} {
		x, y, e := Exact(c.o, c.l, c.coords)
		if e != api.OK || !slices.Equal(texts(t, x), c.x) || !slices.Equal(texts(t, y), c.y) {
			t.Error(c.o, c.l, c.coords, "is", texts(t, x), texts(t, y), e)
		}
		expectAt(t, c.o, c.l, c.coords)
	}
}

func TestExactOfOtherCoordinates(t *testing.T) {
	for _, coords := range [][]int{nil, {}, {0}, {8192}, {0, 0, 0}, {8192, 4096, 0}, make([]int, 5), make([]int, 1000)} {
		if x, y, e := Exact(square(), mixed(), coords); e != api.ErrForm || len(x)+len(y) != 0 {
			t.Error(coords, x, y, e)
		}
		if p, e := At(square(), mixed(), coords); e != api.ErrForm || !sameOutline(p, api.Outline{}) {
			t.Error(coords, p, e)
		}
	}
	for _, n := range []int{math.MinInt, -1 << 40, -16385, -16384, -1, 0, 1, 16384, 16385, 1 << 40, math.MaxInt} {
		for _, m := range []int{math.MinInt, -16385, -8192, 0, 8192, 16385, math.MaxInt} {
			expectAt(t, square(), mixed(), []int{n, m})
		}
	}
	for _, axes := range []int{0, 1, 2, 3, 4} {
		for _, o := range []api.Outline{{}, square(), threeParts()} {
			expectAt(t, o, nil, slices.Repeat([]int{math.MaxInt}, axes))
		}
	}
	for _, axes := range []int{5, 6, 1000} {
		if p, e := At(square(), nil, make([]int, axes)); e != api.ErrForm || !sameOutline(p, api.Outline{}) {
			t.Error(axes, p, e)
		}
	}
}

// TestRoundedOnce: what would be other numbers, if a part, an inferred change or a tuple's change were rounded by itself.
func TestRoundedOnce(t *testing.T) {
	third := api.Tent{Peak: 3, End: 16384}
	tuple := func(dx, dy int) api.Tuple {
		return api.Tuple{Region: region(third), Points: []int{0}, DX: []int{dx}, DY: []int{dy}}
	}
	for _, c := range []struct {
		l    []api.Tuple
		at   int
		want api.Point
	}{
		{[]api.Tuple{tuple(1, -1)}, 1, api.Point{X: 10, Y: -10}},
		{[]api.Tuple{tuple(1, -1)}, 2, api.Point{X: 11, Y: -11}},
		{[]api.Tuple{tuple(1, -1), tuple(1, -1)}, 1, api.Point{X: 11, Y: -11}},
		{[]api.Tuple{tuple(1, -1), tuple(1, -1), tuple(1, -1)}, 1, api.Point{X: 11, Y: -11}},
		{[]api.Tuple{tuple(2, -2), tuple(2, -2)}, 1, api.Point{X: 11, Y: -11}},
		{[]api.Tuple{tuple(1, 2), tuple(2, -2)}, 2, api.Point{X: 12, Y: -10}},
	} {
		o := drawn([]api.Point{{X: 10, Y: -10}})
		if p, e := At(o, c.l, []int{c.at}); e != api.OK || p.Contours[0][0] != c.want {
			t.Error(c.l, c.at, p, e)
		}
		expectAt(t, o, c.l, []int{c.at})
		q, e := At(made(api.Part{Glyph: 9, DX: 10, DY: -10}), c.l, []int{c.at})
		if e != api.OK || q.Parts[0] != (api.Part{Glyph: 9, DX: c.want.X, DY: c.want.Y}) {
			t.Error(c.l, c.at, q, e)
		}
	}
	// Halves go up, on both sides of 0.
	for _, c := range [][3]int{{0, 1, 1}, {0, -1, 0}, {5, 1, 6}, {5, -1, 5}, {-5, 1, -4}, {-5, -1, -5}, {-1, 1, 0}, {-1, -1, -1}} {
		o := drawn([]api.Point{{X: c[0], Y: c[0]}})
		p, e := At(o, []api.Tuple{partly([]int{0}, []int{c[1]}, []int{c[1]})}, []int{8192})
		if e != api.OK || p.Contours[0][0] != (api.Point{X: c[2], Y: c[2]}) {
			t.Error(c, p, e)
		}
	}
	// The middle point is inferred by 1/2 of 1, and holds by 1/2: 1/4 twice is a half.
	o := drawn([]api.Point{{}, {X: 1, Y: 1}, {X: 2, Y: 2}})
	l := slices.Repeat([]api.Tuple{partly([]int{0, 2}, []int{0, 1}, []int{0, -1})}, 2)
	if p, e := At(o, l, []int{8192}); e != api.OK || !sameOutline(p, drawn([]api.Point{{}, {X: 2, Y: 1}, {X: 3, Y: 1}})) {
		t.Error(p, e)
	}
}

func TestAtOfNoFields(t *testing.T) {
	for _, c := range []struct {
		base, change, at int
		want             int
		e                api.Errno
	}{
		{32767, 0, 16384, 32767, 0}, {32767, 1, 8191, 32767, 0}, {32767, 1, 8192, 0, api.ErrRange}, {32767, 1, 0, 32767, 0}, {32766, 1, 16384, 32767, 0},
		{-32768, -1, 8192, -32768, 0}, {-32768, -1, 8193, 0, api.ErrRange}, {-32768, -1, 16384, 0, api.ErrRange}, {-32768, -1, 0, -32768, 0}, {-32767, -1, 16384, -32768, 0},
		{32767, 32767, 16384, 0, api.ErrRange}, {-32768, -32768, 16384, 0, api.ErrRange}, {-32768, 32767, 16384, -1, 0}, {32767, -32768, 16384, -1, 0},
		{32767, 32767, -16384, 32767, 0}, {32767, 32767, 16385, 32767, 0},
	} {
		tuple := func(n, count int, inX bool) []api.Tuple {
			other, changes := make([]int, count), make([]int, count)
			changes[n] = c.change
			if inX {
				return []api.Tuple{wholly(changes, other)}
			}
			return []api.Tuple{wholly(other, changes)}
		}
		for i := range 3 {
			points, parts := make([]api.Point, 3), make([]api.Part, 3)
			points[i], parts[i] = api.Point{X: c.base, Y: c.base}, api.Part{DX: c.base, DY: c.base}
			for _, o := range []api.Outline{drawn(points), drawn(points[:1], points[1:]), made(parts...)} {
				for _, inX := range []bool{true, false} {
					if fits := expectAt(t, o, tuple(i, 3, inX), []int{c.at}); fits != (c.e == api.OK) {
						t.Error(c, i, inX, fits)
					}
				}
			}
			p, e := At(drawn(points), tuple(i, 3, true), []int{c.at})
			if e != c.e || e == api.OK && p.Contours[0][i].X != c.want {
				t.Error(c, i, p, e)
			}
		}
	}
	// What leaves the field on the way only is none's matter.
	up, down := partly([]int{0}, []int{32767}, []int{-32768}), partly([]int{0}, []int{-32768}, []int{32767})
	o := drawn([]api.Point{{X: 30000, Y: -30000}})
	if !expectAt(t, o, []api.Tuple{up, up, down, down}, []int{16384}) || !expectAt(t, o, []api.Tuple{down, up}, []int{16384}) {
		t.Error("the whole fits")
	}
	// That a step between two points leaves its field isn't asked here.
	far := drawn([]api.Point{{X: -32768}, {X: 32767}})
	if !expectAt(t, far, nil, nil) || !expectAt(t, far, []api.Tuple{wholly([]int{1, 0}, []int{0, 0})}, []int{16384}) {
		t.Error("numbers that are fields")
	}
}

func number(r *rand.Rand) int { return (r.Intn(65536) - 32768) >> r.Intn(16) }

func numbers(r *rand.Rand, n int) []int {
	l := make([]int, n)
	for i := range l {
		l[i] = number(r)
	}
	return l
}

func outlineAny(r *rand.Rand) api.Outline {
	var o api.Outline
	if r.Intn(4) == 0 {
		for range r.Intn(7) {
			o.Parts = append(o.Parts, api.Part{Glyph: r.Intn(65536), DX: number(r), DY: number(r)})
		}
		return o
	}
	for range r.Intn(5) {
		var c []api.Point
		for range 1 + r.Intn(8) {
			c = append(c, api.Point{X: number(r), Y: number(r), On: r.Intn(2) == 0})
		}
		o.Contours = append(o.Contours, c)
	}
	return o
}

// tentAny is a formed tent of any kind.
func tentAny(r *rand.Rand) api.Tent {
	known := []api.Tent{{}, {}, slope(), hill(), below(), {Start: -16384, Peak: -16384}, {Peak: 1, End: 2}}
	if r.Intn(3) > 0 {
		return known[r.Intn(len(known))]
	}
	start := r.Intn(16382)
	peak := start + 1 + r.Intn(16383-start)
	end := peak + 1 + r.Intn(16384-peak)
	if r.Intn(2) == 0 {
		return api.Tent{Start: -end, Peak: -peak, End: -start}
	}
	return api.Tent{Start: start, Peak: peak, End: end}
}

// tuplesAny is up to so many tuples that are formed for o.
func tuplesAny(r *rand.Rand, o api.Outline, axes, most int) []api.Tuple {
	count := infer.Count(o)
	var l []api.Tuple
	for range r.Intn(most + 1) {
		var t api.Tuple
		for range axes {
			t.Region = append(t.Region, tentAny(r))
		}
		few := 1 + r.Intn(4)
		for i := range count {
			if r.Intn(few) == 0 {
				t.Points = append(t.Points, i)
			}
		}
		n := len(t.Points)
		if n == 0 || r.Intn(4) == 0 {
			t.All, t.Points, n = true, nil, count
		}
		t.DX, t.DY = numbers(r, n), numbers(r, n)
		l = append(l, t)
	}
	return l
}

// placeAny is coordinates at which a tuple often holds.
func placeAny(r *rand.Rand, l []api.Tuple, axes int) []int {
	coords := make([]int, axes)
	var chosen []api.Tent
	if len(l) > 0 {
		chosen = l[r.Intn(len(l))].Region
	}
	for i := range coords {
		coords[i] = r.Intn(2*16384+1) - 16384
		if len(chosen) > 0 && chosen[i].Peak != 0 && r.Intn(5) > 0 {
			coords[i] = chosen[i].Start + 1 + r.Intn(chosen[i].End-chosen[i].Start)
		}
	}
	return coords
}

func TestDrawnTuples(t *testing.T) {
	r := rand.New(rand.NewSource(1))
	fit, changed := 0, 0
	for range 3000 {
		o, axes := outlineAny(r), r.Intn(5)
		l := tuplesAny(r, o, axes, 5)
		if !Formed(o, l, axes) || !wellFormed(o, l, axes) {
			t.Fatal(o, l, axes)
		}
		coords := placeAny(r, l, axes)
		if !expectAt(t, o, l, coords) {
			continue
		}
		fit++
		if p, _ := At(o, l, coords); !sameOutline(p, o) {
			changed++
		}
	}
	if fit < 1500 || changed < 700 {
		t.Error("too few outlines:", fit, changed)
	}
}

// TestManyTuples: sums of many regions, whose denominators have little in common.
func TestManyTuples(t *testing.T) {
	r := rand.New(rand.NewSource(2))
	for _, n := range []int{1, 2, 3, 7, 39, 40} {
		o := drawn([]api.Point{{X: number(r)}, {Y: number(r)}, {X: number(r), Y: number(r)}, {X: number(r)}})
		var l []api.Tuple
		for range n {
			var u api.Tuple
			for range 4 {
				u.Region = append(u.Region, api.Tent{Start: r.Intn(3000), Peak: 5000 + r.Intn(3000), End: 9000 + r.Intn(7000)})
			}
			u.Points, u.DX, u.DY = []int{0, 1 + r.Intn(3)}, numbers(r, 2), numbers(r, 2)
			l = append(l, u)
		}
		expectAt(t, o, l, []int{3501, 4003, 7001, 8999})
	}
}

// TestAsItWasAtZero: at the coordinates 0 the outline is as it was, unless a tuple holds everywhere.
func TestAsItWasAtZero(t *testing.T) {
	r := rand.New(rand.NewSource(3))
	asked := 0
	for range 2000 {
		o, axes := outlineAny(r), 1+r.Intn(4)
		l := tuplesAny(r, o, axes, 4)
		if slices.ContainsFunc(l, func(u api.Tuple) bool { return tents.Everywhere(u.Region) }) {
			continue
		}
		asked++
		if p, e := At(o, l, make([]int, axes)); e != api.OK || !sameOutline(p, o) {
			t.Error(o, l, p, e)
		}
	}
	if asked < 500 {
		t.Error("too few:", asked)
	}
	if p, e := At(square(), mixed(), []int{0, 0}); e != api.OK || p.Contours[1][0].X != 17 || p.Contours[1][2].X != 47 || p.Contours[0][0].X != 0 {
		t.Error("one that holds everywhere changes its contour:", p, e)
	}
}

// TestOrderIsNothing: in which order tuples stand is nothing to the numbers.
func TestOrderIsNothing(t *testing.T) {
	r := rand.New(rand.NewSource(4))
	for range 600 {
		o, axes := outlineAny(r), r.Intn(5)
		l := tuplesAny(r, o, axes, 6)
		coords := placeAny(r, l, axes)
		x, y, e := Exact(o, l, coords)
		other := slices.Clone(l)
		r.Shuffle(len(other), func(i, k int) { other[i], other[k] = other[k], other[i] })
		u, v, f := Exact(o, other, coords)
		if e != f || !slices.Equal(texts(t, x), texts(t, u)) || !slices.Equal(texts(t, y), texts(t, v)) {
			t.Error(o, l, other, coords)
		}
	}
}

// TestAllNamed: a tuple that names all points is as one of All.
func TestAllNamed(t *testing.T) {
	r := rand.New(rand.NewSource(5))
	for range 600 {
		o, axes := outlineAny(r), r.Intn(5)
		l := tuplesAny(r, o, axes, 4)
		coords := placeAny(r, l, axes)
		other := copied(l)
		for i := range other {
			if !other[i].All || infer.Count(o) == 0 {
				continue
			}
			other[i].All = false
			for p := range infer.Count(o) {
				other[i].Points = append(other[i].Points, p)
			}
		}
		x, y, e := Exact(o, l, coords)
		u, v, f := Exact(o, other, coords)
		if e != api.OK || f != api.OK || !slices.Equal(texts(t, x), texts(t, u)) || !slices.Equal(texts(t, y), texts(t, v)) {
			t.Error(o, l, other, coords)
		}
	}
}

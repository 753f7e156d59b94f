package tents

import (
	"math"
	"math/big"
	"math/rand"
	"slices"
	"testing"

	"foundry/api"
	"foundry/nat"
	"foundry/ratio"
)

// edges are numbers about those at which something changes.
func edges() []int {
	return []int{
		math.MinInt, -1 << 40, -32768, -16385, -16384, -16383, -8193, -8192, -8191, -2, -1, 0,
		1, 2, 8191, 8192, 8193, 16383, 16384, 16385, 32767, 1 << 40, math.MaxInt,
	}
}

func coordinate(n int) bool {
	return -16384 <= n && n <= 16384
}

// wellFormed asks the chapter's words one by one.
func wellFormed(t api.Tent) bool {
	if !coordinate(t.Start) || !coordinate(t.Peak) || !coordinate(t.End) {
		return false
	}
	everywhere := t.Start == 0 && t.Peak == 0 && t.End == 0
	above := t.Peak > 0 && 0 <= t.Start && t.Start < t.Peak && (t.End > t.Peak || t.End == 16384 && t.Peak == 16384)
	below := t.Peak < 0 && t.Peak < t.End && t.End <= 0 && (t.Start < t.Peak || t.Start == -16384 && t.Peak == -16384)
	return everywhere || above || below
}

// eachTent calls check with the tents of all edges.
func eachTent(check func(t api.Tent)) {
	for _, start := range edges() {
		for _, peak := range edges() {
			for _, end := range edges() {
				check(api.Tent{Start: start, Peak: peak, End: end})
			}
		}
	}
}

// formedTents are tents of all kinds.
func formedTents() []api.Tent {
	return []api.Tent{
		{},
		{Peak: 8192, End: 16384}, {Start: 8192, Peak: 16384, End: 16384}, {Peak: 16384, End: 16384}, {Peak: 1, End: 2}, {Peak: 1, End: 16384},
		{Start: 16383, Peak: 16384, End: 16384}, {Start: 16382, Peak: 16383, End: 16384}, {Start: 5, Peak: 12, End: 9000}, {Peak: 16383, End: 16384},
		{Start: -16384, Peak: -8192}, {Start: -16384, Peak: -16384, End: -8192}, {Start: -16384, Peak: -16384}, {Start: -2, Peak: -1}, {Start: -16384, Peak: -1},
		{Start: -16384, Peak: -16384, End: -16383}, {Start: -16384, Peak: -16383, End: -16382}, {Start: -9000, Peak: -12, End: -5}, {Start: -16384, Peak: -16383},
	}
}

// wrongTents are tents that aren't formed.
func wrongTents() map[string]api.Tent {
	return map[string]api.Tent{
		"an end alone":            {End: 5},
		"a start alone":           {Start: -5},
		"about 0":                 {Start: -5, End: 5},
		"a start above 0":         {Start: 5},
		"an end below 0":          {End: -5},
		"start across 0":          {Start: -1, Peak: 5, End: 6},
		"end across 0":            {Start: -5, Peak: -3, End: 1},
		"start above peak":        {Start: 5, Peak: 4, End: 6},
		"start at peak":           {Start: 5, Peak: 5, End: 6},
		"start at the last peak":  {Start: 16384, Peak: 16384, End: 16384},
		"end at peak":             {Peak: 5, End: 5},
		"end at 16383":            {Peak: 16383, End: 16383},
		"end below peak":          {Peak: 5, End: 4},
		"end below the last peak": {Peak: 16384, End: 16383},
		"end beyond":              {Peak: 5, End: 16385},
		"all beyond":              {Start: 16383, Peak: 16385, End: 16385},
		"end at peak below":       {Start: -6, Peak: -5, End: -5},
		"end at the first peak":   {Start: -16384, Peak: -16384, End: -16384},
		"end under peak":          {Start: -6, Peak: -4, End: -5},
		"start at peak below":     {Start: -5, Peak: -5},
		"start at -16383":         {Start: -16383, Peak: -16383},
		"start over peak":         {Start: -4, Peak: -5},
		"start over first peak":   {Start: -16383, Peak: -16384},
		"start beyond":            {Start: -16385, Peak: -5},
		"all beyond below":        {Start: -16385, Peak: -16385, End: -16383},
		"least ints":              {Start: math.MinInt, Peak: math.MinInt, End: math.MinInt},
		"least peak":              {Start: math.MinInt, Peak: math.MinInt},
		"greatest ints":           {Start: math.MaxInt, Peak: math.MaxInt, End: math.MaxInt},
		"greatest end":            {Peak: 5, End: math.MaxInt},
	}
}

func TestFormed(t *testing.T) {
	for _, x := range formedTents() {
		if !Formed(x) {
			t.Error(x)
		}
	}
	for name, x := range wrongTents() {
		if Formed(x) {
			t.Errorf("%s: %v", name, x)
		}
	}
	eachTent(func(x api.Tent) {
		if got := Formed(x); got != wellFormed(x) {
			t.Errorf("%v: %v", x, got)
		}
	})
	for start := -4; start <= 4; start++ {
		for peak := -4; peak <= 4; peak++ {
			for end := -4; end <= 4; end++ {
				x := api.Tent{Start: start, Peak: peak, End: end}
				if got := Formed(x); got != wellFormed(x) {
					t.Errorf("%v: %v", x, got)
				}
			}
		}
	}
}

func TestRegion(t *testing.T) {
	list := formedTents()
	for n := range len(list) + 1 {
		for _, axes := range []int{math.MinInt, -n, -1, 0, 1, n - 1, n, n + 1, 4, math.MaxInt} {
			if got := Region(list[:n], axes); got != (axes == n) {
				t.Errorf("%d tents, %d axes: %v", n, axes, got)
			}
		}
	}
	if !Region(nil, 0) || !Region([]api.Tent{}, 0) || Region(nil, 1) || Region(nil, -1) {
		t.Error("no tents")
	}
	for name, x := range wrongTents() {
		for n := 1; n <= 4; n++ {
			for at := range n {
				l := slices.Clone(list[:n])
				l[at] = x
				if Region(l, n) || Region(l, n-1) || Region(l, n+1) {
					t.Errorf("%s, number %d of %d", name, at, n)
				}
			}
		}
	}
}

// partOf is what the chapter says of a tent's part, by another library's fractions.
func partOf(t api.Tent, c int) *big.Rat {
	switch {
	case !wellFormed(t) || !coordinate(c):
		return new(big.Rat)
	case t.Peak == 0 || c == t.Peak:
		return big.NewRat(1, 1)
	case c <= t.Start || c >= t.End:
		return new(big.Rat)
	case c < t.Peak:
		return big.NewRat(int64(c-t.Start), int64(t.Peak-t.Start))
	}
	return big.NewRat(int64(t.End-c), int64(t.End-t.Peak))
}

// expectFraction fails unless got is formed and has the value want.
func expectFraction(t *testing.T, got ratio.Ratio, want *big.Rat, what ...any) {
	t.Helper()
	if !ratio.Formed(got) || ratio.Text(got) != want.RatString() {
		t.Errorf("%v: %s (%v), want %s", what, ratio.Text(got), got, want.RatString())
	}
}

// aboutTent are coordinates about those at which t's part bends, and others.
func aboutTent(t api.Tent) []int {
	list := edges()
	for _, n := range []int{t.Start, t.Peak, t.End, t.Start/2 + t.Peak/2, t.Peak/2 + t.End/2} {
		list = append(list, n-1, n, n+1)
	}
	return list
}

func TestPartOfTheChapter(t *testing.T) {
	half, late := api.Tent{Peak: 8192, End: 16384}, api.Tent{Start: 8192, Peak: 16384, End: 16384}
	low, early := api.Tent{Start: -16384, Peak: -8192}, api.Tent{Start: -16384, Peak: -16384, End: -8192}
	skew := api.Tent{Start: 4096, Peak: 7168, End: 12288}
	for _, c := range []struct {
		tent api.Tent
		at   int
		want string
	}{
		{half, 4096, "1/2"}, {half, 12288, "1/2"}, {half, 16384, "0"}, {half, 8192, "1"}, {half, 0, "0"}, {half, -1, "0"}, {half, -16384, "0"},
		{half, 1, "1/8192"}, {half, 8191, "8191/8192"}, {half, 8193, "8191/8192"}, {half, 16383, "1/8192"}, {half, 16385, "0"},
		{late, 16384, "1"}, {late, 8192, "0"}, {late, 8193, "1/8192"}, {late, 12288, "1/2"}, {late, 16383, "8191/8192"}, {late, 16385, "0"}, {late, 0, "0"},
		{low, -8192, "1"}, {low, -16384, "0"}, {low, 0, "0"}, {low, 1, "0"}, {low, -4096, "1/2"}, {low, -12288, "1/2"}, {low, -1, "1/8192"}, {low, -16385, "0"},
		{early, -16384, "1"}, {early, -8192, "0"}, {early, -8193, "1/8192"}, {early, -16383, "8191/8192"}, {early, -16385, "0"}, {early, 16384, "0"},
		{skew, 4096, "0"}, {skew, 5120, "1/3"}, {skew, 7168, "1"}, {skew, 8192, "4/5"}, {skew, 11264, "1/5"}, {skew, 12288, "0"},
		{api.Tent{}, -16384, "1"}, {api.Tent{}, -5, "1"}, {api.Tent{}, 0, "1"}, {api.Tent{}, 16384, "1"}, {api.Tent{}, 16385, "0"}, {api.Tent{}, -16385, "0"},
	} {
		if got := ratio.Text(Part(c.tent, c.at)); got != c.want {
			t.Errorf("%v at %d: %s, want %s", c.tent, c.at, got, c.want)
		}
	}
}

func TestPart(t *testing.T) {
	for _, x := range formedTents() {
		for _, c := range aboutTent(x) {
			expectFraction(t, Part(x, c), partOf(x, c), x, c)
		}
	}
	for c := -16390; c <= 16390; c++ {
		for _, x := range []api.Tent{{}, {Start: 5, Peak: 12, End: 9000}, {Start: -16384, Peak: -16384}} {
			expectFraction(t, Part(x, c), partOf(x, c), x, c)
		}
	}
	eachTent(func(x api.Tent) {
		for _, c := range []int{-16384, -8192, -1, 0, 1, 8192, 16384, x.Start, x.Peak, x.End} {
			expectFraction(t, Part(x, c), partOf(x, c), x, c)
		}
	})
}

func TestPartOfWhatIsWrong(t *testing.T) {
	for name, x := range wrongTents() {
		for _, c := range aboutTent(x) {
			expectFraction(t, Part(x, c), new(big.Rat), name, x, c)
		}
	}
	for _, x := range formedTents() {
		for _, c := range []int{math.MinInt, -1 << 40, -16385, 16385, 1 << 40, math.MaxInt} {
			expectFraction(t, Part(x, c), new(big.Rat), x, c)
		}
	}
}

// allOf is what the chapter says of a region's part.
func allOf(l []api.Tent, coords []int) *big.Rat {
	product := big.NewRat(1, 1)
	for i, x := range l {
		c := 0
		if i < len(coords) {
			c = coords[i]
		}
		product.Mul(product, partOf(x, c))
	}
	return product
}

func TestAllOfFewTents(t *testing.T) {
	half, late, low := api.Tent{Peak: 8192, End: 16384}, api.Tent{Start: 8192, Peak: 16384, End: 16384}, api.Tent{Start: -16384, Peak: -8192}
	thirds := api.Tent{Start: 3, Peak: 6, End: 12}
	for _, c := range []struct {
		l      []api.Tent
		coords []int
		want   string
	}{
		{nil, nil, "1"}, {[]api.Tent{}, []int{}, "1"}, {nil, []int{5, 16385}, "1"},
		{[]api.Tent{half}, []int{4096}, "1/2"}, {[]api.Tent{half}, nil, "0"}, {[]api.Tent{{}}, nil, "1"}, {[]api.Tent{{}, {}, {}}, []int{5}, "1"},
		{[]api.Tent{half, late}, []int{4096, 12288}, "1/4"}, {[]api.Tent{late, half}, []int{12288, 4096}, "1/4"}, {[]api.Tent{late, half}, []int{4096, 12288}, "0"},
		{[]api.Tent{half, {}}, []int{4096}, "1/2"}, {[]api.Tent{{}, half}, []int{4096}, "0"}, {[]api.Tent{half, late}, []int{4096}, "0"},
		{[]api.Tent{half, {}}, []int{4096, -3, 7, 99999}, "1/2"}, {[]api.Tent{half}, []int{4096, 16385}, "1/2"}, {[]api.Tent{half}, []int{4096, 0}, "1/2"},
		{[]api.Tent{half, low, thirds, {}}, []int{8192, -8192, 6, 9}, "1"}, {[]api.Tent{half, low, thirds, {}}, []int{4096, -12288, 5}, "1/6"},
		{[]api.Tent{thirds, thirds, thirds}, []int{4, 5, 8}, "4/27"}, {[]api.Tent{thirds, thirds, thirds}, []int{4, 12, 8}, "0"},
	} {
		if got := ratio.Text(All(c.l, c.coords)); got != c.want {
			t.Errorf("%v at %v: %s, want %s", c.l, c.coords, got, c.want)
		}
	}
}

func TestAllOfWhatIsWrong(t *testing.T) {
	for n := 1; n <= 4; n++ {
		for at := range n {
			peaks := make([]int, n)
			for name, x := range wrongTents() {
				l := make([]api.Tent, n)
				l[at] = x
				expectFraction(t, All(l, nil), new(big.Rat), name, l)
				expectFraction(t, All(l, peaks), new(big.Rat), name, l)
				expectFraction(t, All(l, Peak(l)), new(big.Rat), name, l)
			}
			for _, c := range []int{math.MinInt, -16385, 16385, math.MaxInt} {
				coords := slices.Clone(peaks)
				coords[at] = c
				expectFraction(t, All(make([]api.Tent, n), coords), new(big.Rat), n, coords)
				expectFraction(t, All(make([]api.Tent, at), coords), big.NewRat(1, 1), at, coords)
			}
		}
	}
}

// drawnTent is a formed tent, or, seldom, one that may be wrong.
func drawnTent(r *rand.Rand) api.Tent {
	if r.Intn(3) == 0 {
		known := formedTents()
		return known[r.Intn(len(known))]
	}
	v := []int{r.Intn(16385), r.Intn(16385), r.Intn(16385)}
	slices.Sort(v)
	x := api.Tent{Start: v[0], Peak: v[1], End: v[2]}
	if r.Intn(2) == 0 {
		x = api.Tent{Start: -v[2], Peak: -v[1], End: -v[0]}
	}
	if r.Intn(50) == 0 {
		x.Start, x.End = x.End, x.Start
	}
	return x
}

// drawnCoordinate is one at which t's part often isn't 0.
func drawnCoordinate(r *rand.Rand, t api.Tent) int {
	about := aboutTent(t)
	if r.Intn(4) == 0 {
		return about[r.Intn(len(about))]
	}
	if t.End <= t.Start {
		return r.Intn(2*16384+1) - 16384
	}
	return t.Start + r.Intn(t.End-t.Start+1)
}

func TestAll(t *testing.T) {
	r := rand.New(rand.NewSource(1))
	some := 0
	for range 20000 {
		l := make([]api.Tent, r.Intn(6))
		var coords []int
		for i := range l {
			l[i] = drawnTent(r)
			coords = append(coords, drawnCoordinate(r, l[i]))
		}
		if r.Intn(4) == 0 {
			coords = coords[:r.Intn(len(coords)+1)]
		} else if r.Intn(4) == 0 {
			coords = append(coords, r.Intn(99999)-50000)
		}
		want := allOf(l, coords)
		if want.Sign() > 0 {
			some++
		}
		expectFraction(t, All(l, coords), want, l, coords)
	}
	if some < 5000 {
		t.Error("too few regions hold anything:", some)
	}
}

func TestLongRegions(t *testing.T) {
	const many = 50000
	expectFraction(t, All(make([]api.Tent, many), nil), big.NewRat(1, 1), many)
	last := append(make([]api.Tent, many), api.Tent{Peak: 3, End: 4})
	if !Region(last, many+1) || Region(last, many) || Everywhere(last) || !Everywhere(last[:many]) {
		t.Error("a long region")
	}
	expectFraction(t, All(last, append(make([]int, many), 1)), big.NewRat(1, 3), many)
	expectFraction(t, All(last, nil), new(big.Rat), many)
	var l []api.Tent
	var coords []int
	for i := range 60 {
		l = append(l, api.Tent{Start: i, Peak: 9001 + i*i, End: 16384})
		coords = append(coords, 4999+3*i)
	}
	expectFraction(t, All(l, coords), allOf(l, coords), "sixty")
}

func TestPeak(t *testing.T) {
	for _, c := range []struct {
		l    []api.Tent
		want []int
	}{
		{nil, nil}, {[]api.Tent{}, nil}, {[]api.Tent{{}}, []int{0}}, {[]api.Tent{{Start: 1, Peak: 2, End: 3}, {Start: -3, Peak: -2, End: -1}, {}}, []int{2, -2, 0}},
		{[]api.Tent{{Start: 9, Peak: 2, End: 3}, {Peak: 16385}, {Peak: math.MinInt}, {Peak: math.MaxInt}, {Start: 5, End: -5}}, []int{2, 16385, math.MinInt, math.MaxInt, 0}},
	} {
		if got := Peak(c.l); !slices.Equal(got, c.want) {
			t.Errorf("%v: %v", c.l, got)
		}
	}
}

func TestEverywhere(t *testing.T) {
	for _, c := range []struct {
		l    []api.Tent
		want bool
	}{
		{nil, true}, {[]api.Tent{}, true}, {[]api.Tent{{}}, true}, {[]api.Tent{{}, {}, {}, {}, {}}, true},
		{[]api.Tent{{Start: 5, End: -5}, {End: 99999}, {Start: math.MinInt, End: math.MaxInt}}, true},
		{[]api.Tent{{Peak: 1, End: 2}}, false}, {[]api.Tent{{}, {Peak: 16384, End: 16384}}, false}, {[]api.Tent{{Start: -2, Peak: -1}, {}}, false},
		{[]api.Tent{{}, {Peak: 16385}, {}}, false}, {[]api.Tent{{Peak: math.MinInt}}, false}, {[]api.Tent{{Start: 9, Peak: 2, End: 3}}, false},
	} {
		if got := Everywhere(c.l); got != c.want {
			t.Errorf("%v: %v", c.l, got)
		}
	}
}

// TestWhatFollows: parts lie from 0 to 1, are 1 at the peaks, and 0 at the coordinates 0, unless the region holds everywhere.
func TestWhatFollows(t *testing.T) {
	r := rand.New(rand.NewSource(2))
	for range 10000 {
		l := make([]api.Tent, r.Intn(5))
		coords := make([]int, len(l))
		for i := range l {
			l[i] = drawnTent(r)
			coords[i] = drawnCoordinate(r, l[i])
		}
		for _, at := range [][]int{coords, nil, Peak(l)} {
			if part := All(l, at); ratio.Sign(part) < 0 || ratio.Cmp(part, ratio.Whole(1)) > 0 {
				t.Fatalf("%v at %v: %s", l, at, ratio.Text(part))
			}
		}
		if !Region(l, len(l)) {
			continue
		}
		if part := All(l, Peak(l)); ratio.Text(part) != "1" {
			t.Fatalf("%v at its peaks: %s", l, ratio.Text(part))
		}
		want := "0"
		if Everywhere(l) {
			want = "1"
		}
		if part := All(l, make([]int, len(l))); ratio.Text(part) != want {
			t.Fatalf("%v at 0: %s", l, ratio.Text(part))
		}
	}
}

// TestStraight: halfway between two coordinates on one slope the part is halfway between theirs.
func TestStraight(t *testing.T) {
	r := rand.New(rand.NewSource(3))
	for range 5000 {
		l := []api.Tent{drawnTent(r), drawnTent(r), drawnTent(r)}
		if !Region(l, 3) {
			continue
		}
		at := r.Intn(3)
		x := l[at]
		low, high := x.Start, x.Peak
		if r.Intn(2) == 0 {
			low, high = x.Peak, x.End
		}
		coords := Peak(l)
		coords[(at+1)%3] = drawnCoordinate(r, l[(at+1)%3])
		low += r.Intn(high - low + 1)
		middle := low + r.Intn((high-low)/2+1)
		first := partAt(l, coords, at, low)
		last := partAt(l, coords, at, 2*middle-low)
		twice := ratio.Mul(ratio.Whole(2), partAt(l, coords, at, middle))
		if ratio.Cmp(ratio.Add(first, last), twice) != 0 {
			t.Fatalf("%v at %v: axis %d from %d by %d", l, coords, at, low, middle)
		}
	}
}

// partAt is the region's part where the coordinate number at is c, and the others are as given.
func partAt(l []api.Tent, coords []int, at, c int) ratio.Ratio {
	moved := slices.Clone(coords)
	moved[at] = c
	return All(l, moved)
}

// TestNoJumps: from one coordinate to the next a part changes by at most one step of its steeper slope.
func TestNoJumps(t *testing.T) {
	for _, x := range formedTents() {
		if x == (api.Tent{}) {
			continue
		}
		steps := []int64{math.MaxInt64}
		if x.Peak > x.Start {
			steps = append(steps, int64(x.Peak-x.Start))
		}
		if x.End > x.Peak {
			steps = append(steps, int64(x.End-x.Peak))
		}
		most := ratio.Make(1, slices.Min(steps))
		before := Part(x, -16384)
		for c := -16383; c <= 16384; c++ {
			now := Part(x, c)
			way := ratio.Sub(now, before)
			if ratio.Cmp(way, most) > 0 || ratio.Cmp(ratio.Sub(ratio.Whole(0), way), most) > 0 {
				t.Fatalf("%v jumps at %d: from %s to %s", x, c, ratio.Text(before), ratio.Text(now))
			}
			before = now
		}
	}
}

// roomy answers a copy of l that has more room, filled with x.
func roomy[T any](l []T, x T) []T {
	return append(slices.Clone(l), x, x, x)[:len(l)]
}

func TestArgumentsAreLeft(t *testing.T) {
	tents := []api.Tent{{Peak: 8192, End: 16384}, {Start: 9, Peak: 5, End: 7}, {}}
	room := api.Tent{Start: 77, Peak: 77, End: 77}
	l, coords := roomy(tents, room), roomy([]int{4096, 99999}, 77)
	for n := range 4 {
		for m := range 3 {
			All(l[:n], coords[:m])
		}
		Region(l[:n], n)
		Everywhere(l[:n])
		Peak(l[:n])
	}
	if !slices.Equal(l[:6], append(tents, room, room, room)) {
		t.Error(l[:6])
	}
	if !slices.Equal(coords[:5], []int{4096, 99999, 77, 77, 77}) {
		t.Error(coords[:5])
	}
}

// scribble writes over all limbs of a fraction, and the room behind them.
func scribble(x ratio.Ratio) {
	for _, limbs := range []nat.Nat{x.Num, x.Den} {
		limbs = limbs[:cap(limbs)]
		for i := range limbs {
			limbs[i] = 123456789
		}
	}
}

func TestAnswersAreNew(t *testing.T) {
	x := api.Tent{Peak: 8192, End: 16384}
	for _, l := range [][]api.Tent{nil, {{}}, {x}, {x, x}, {{Peak: -1}}} {
		for _, coords := range [][]int{nil, {0}, {4096, 12288}, {8192, 8192}, {16385}} {
			want := allOf(l, coords)
			scribble(All(l, coords))
			expectFraction(t, All(l, coords), want, l, coords)
		}
	}
	for _, c := range []int{-1, 0, 4096, 8192, 12288, 16384, 16385} {
		for _, y := range []api.Tent{x, {}, {Peak: -1}} {
			scribble(Part(y, c))
			expectFraction(t, Part(y, c), partOf(y, c), y, c)
		}
	}
	l := []api.Tent{x, {Start: -3, Peak: -2}}
	peaks := Peak(l)
	peaks[0] = 99
	if l[0] != x || !slices.Equal(Peak(l), []int{8192, -2}) {
		t.Error("an answer hangs on an argument")
	}
}

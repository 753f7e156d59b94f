package infer

import (
	"math"
	"math/big"
	"math/rand"
	"slices"
	"testing"

	"foundry/api"
	"foundry/ratio"
)

// marks makes touched ones of a text: x is one.
func marks(s string) []bool {
	var l []bool
	for _, c := range s {
		l = append(l, c == 'x')
	}
	return l
}

// texts is how fractions are written, of which none may be other than formed.
func texts(t *testing.T, l []ratio.Ratio) []string {
	t.Helper()
	var told []string
	for _, x := range l {
		if !ratio.Formed(x) {
			t.Error("not formed:", x)
		}
		told = append(told, ratio.Text(x))
	}
	return told
}

// told is how a fraction of the model is written.
func told(x *big.Rat) string { return x.RatString() }

// inField is whether n fits 16 bits with a sign.
func inField(n int) bool { return n >= -32768 && n <= 32767 }

// around finds the touched ones next to i, by where they stand in the list of all of them.
func around(touched []bool, i int) (ahead, behind int) {
	var all []int
	for k, is := range touched {
		if is {
			all = append(all, k)
		}
	}
	ahead, behind = all[len(all)-1], all[0]
	for _, k := range all {
		if k < i {
			ahead = k
		}
	}
	for _, k := range slices.Backward(all) {
		if k > i {
			behind = k
		}
	}
	return ahead, behind
}

// model is what the chapter says of one contour's numbers.
func model(numbers []int, touched []bool, changes []int) []string {
	if len(touched) != len(numbers) || len(changes) != len(numbers) || len(numbers) > 80 {
		return nil
	}
	for i := range numbers {
		if !inField(numbers[i]) || !inField(changes[i]) {
			return nil
		}
	}
	var l []string
	for i, c := range numbers {
		switch {
		case touched[i]:
			l = append(l, told(big.NewRat(int64(changes[i]), 1)))
		case !slices.Contains(touched, true):
			l = append(l, "0")
		default:
			one, other := around(touched, i)
			l = append(l, told(guessed(numbers[one], numbers[other], changes[one], changes[other], c)))
		}
	}
	return l
}

// guessed is the change at c, of numbers a and b changed by x and y.
func guessed(a, b, x, y, c int) *big.Rat {
	if a == b && x != y {
		return new(big.Rat)
	}
	if a == b {
		return big.NewRat(int64(x), 1)
	}
	// Along the line through both, but no farther than they are.
	part := big.NewRat(int64(c-a), int64(b-a))
	if part.Sign() < 0 {
		part = new(big.Rat)
	}
	if part.Cmp(big.NewRat(1, 1)) > 0 {
		part = big.NewRat(1, 1)
	}
	part.Mul(part, big.NewRat(int64(y-x), 1))
	return part.Add(part, big.NewRat(int64(x), 1))
}

func expectFill(t *testing.T, numbers []int, touched []bool, changes []int) {
	t.Helper()
	got, want := texts(t, Fill(numbers, touched, changes)), model(numbers, touched, changes)
	if !slices.Equal(got, want) {
		t.Error(numbers, touched, changes, "is", got, "not", want)
	}
}

func TestOfTheChapter(t *testing.T) {
	ends := marks("x.x")
	if l := texts(t, Fill([]int{0, 5, 10}, ends, []int{0, 0, 20})); !slices.Equal(l, []string{"0", "10", "20"}) {
		t.Error(l)
	}
	if l := texts(t, Fill([]int{0, 30, 10}, ends, []int{0, 0, 20})); !slices.Equal(l, []string{"0", "20", "20"}) {
		t.Error(l)
	}
}

func TestKnown(t *testing.T) {
	for _, x := range []struct {
		numbers []int
		touched string
		changes []int
		want    []string
	}{
		{nil, "", nil, nil},
		{[]int{7}, ".", []int{9}, []string{"0"}},
		{[]int{7}, "x", []int{9}, []string{"9"}},
		{[]int{7, 8, 9}, "...", []int{1, 2, 3}, []string{"0", "0", "0"}},
		{[]int{7, 8, 9}, ".x.", []int{1, 2, 3}, []string{"2", "2", "2"}},
		{[]int{7, 8, 9}, "xxx", []int{1, 2, 3}, []string{"1", "2", "3"}},
		{[]int{7, -1, 7}, "x.x", []int{5, 0, 5}, []string{"5", "5", "5"}},
		{[]int{7, -1, 7}, "x.x", []int{5, 0, 6}, []string{"5", "0", "6"}},
		{[]int{7, 7, 7}, "x.x", []int{5, 9, 6}, []string{"5", "0", "6"}},
		{[]int{10, 4, 0}, "x.x", []int{20, 0, 0}, []string{"20", "8", "0"}},
		{[]int{10, 10, 0}, "x.x", []int{20, 0, 5}, []string{"20", "20", "5"}},
		{[]int{10, 0, 0}, "x.x", []int{20, 0, 5}, []string{"20", "5", "5"}},
		{[]int{10, 11, 0}, "x.x", []int{20, 0, 5}, []string{"20", "20", "5"}},
		{[]int{10, -1, 0}, "x.x", []int{20, 0, 5}, []string{"20", "5", "5"}},
		{[]int{0, 1, 3}, "x.x", []int{0, 0, 1}, []string{"0", "1/3", "1"}},
		{[]int{0, 1, 3}, "x.x", []int{0, 0, -1}, []string{"0", "-1/3", "-1"}},
		{[]int{2, 0, 3, 1}, ".x.x", []int{0, 10, 0, 20}, []string{"20", "10", "20", "20"}},
		{[]int{5, 0, 100, 10, 5}, ".x.x.", []int{0, 10, 0, 20, 0}, []string{"15", "10", "20", "20", "15"}},
		{[]int{-32768, 0, 32767}, "x.x", []int{-32768, 0, 32767}, []string{"-32768", "0", "32767"}},
		{[]int{-32768, -1, 32767}, "x.x", []int{32767, 0, -32768}, []string{"32767", "0", "-32768"}},
	} {
		if l := texts(t, Fill(x.numbers, marks(x.touched), x.changes)); !slices.Equal(l, x.want) {
			t.Error(x.numbers, x.touched, x.changes, "is", l, "not", x.want)
		}
		expectFill(t, x.numbers, marks(x.touched), x.changes)
	}
}

// TestSmallContours goes through all contours of up to four numbers that are alike or differ a little.
func TestSmallContours(t *testing.T) {
	for n := range 5 {
		numbers, changes, touched := make([]int, n), make([]int, n), make([]bool, n)
		all := 1
		for range n {
			all *= 3 * 5
		}
		for code := range all {
			for i := range n {
				numbers[i] = code % 3 * 2
				code /= 3
				touched[i] = code%5 < 3
				// What stands at those that aren't touched must not matter, but may be anything.
				changes[i] = []int{0, 3, -4, 9, 0}[code%5]
				code /= 5
			}
			expectFill(t, numbers, touched, changes)
		}
	}
}

func number(r *rand.Rand) int { return (r.Intn(65536) - 32768) >> r.Intn(16) }

// contourAny is drawn numbers, of which few or many are touched.
func contourAny(r *rand.Rand, n int) (numbers []int, touched []bool, changes []int) {
	few := 1 + r.Intn(12)
	for range n {
		numbers = append(numbers, number(r))
		touched = append(touched, r.Intn(few) == 0)
		changes = append(changes, number(r))
	}
	return numbers, touched, changes
}

func TestDrawnContours(t *testing.T) {
	r := rand.New(rand.NewSource(1))
	for range 3000 {
		numbers, touched, changes := contourAny(r, r.Intn(82))
		expectFill(t, numbers, touched, changes)
	}
}

func TestFewTouched(t *testing.T) {
	r := rand.New(rand.NewSource(2))
	for _, n := range []int{1, 2, 3, 10, 80} {
		numbers, _, changes := contourAny(r, n)
		expectFill(t, numbers, make([]bool, n), changes)
		for i := range n {
			one := make([]bool, n)
			one[i] = true
			want := slices.Repeat([]string{told(big.NewRat(int64(changes[i]), 1))}, n)
			if l := texts(t, Fill(numbers, one, changes)); !slices.Equal(l, want) {
				t.Error(numbers, i, changes[i], l)
			}
			for k := range n {
				two := slices.Clone(one)
				two[k] = true
				expectFill(t, numbers, two, changes)
			}
		}
	}
}

func TestFillOfWrongLists(t *testing.T) {
	for n := range 4 {
		for m := range 4 {
			for k := range 4 {
				l := Fill(make([]int, n), make([]bool, m), make([]int, k))
				want := 0
				if n == m && m == k {
					want = n
				}
				if len(l) != want {
					t.Error(n, m, k, l)
				}
			}
		}
	}
	for n, want := range map[int]int{79: 79, 80: 80, 81: 0, 82: 0, 160: 0, 100000: 0} {
		if l := Fill(make([]int, n), make([]bool, n), make([]int, n)); len(l) != want {
			t.Error(n, len(l))
		}
	}
	if l := Fill(nil, nil, nil); len(l) != 0 {
		t.Error(l)
	}
}

// outside is numbers that are no fields, some of which are, cut to 16 bits.
func outside() []int {
	return []int{-32769, 32768, 65535, 65536, -65536, 65541, 1 << 31, 1<<32 + 1, -1 << 40, 1 << 48, math.MaxInt, math.MinInt}
}

func TestFillOfNoFields(t *testing.T) {
	for _, wrong := range outside() {
		for i := range 3 {
			for _, touched := range []string{"...", "x..", ".x.", "..x", "xx.", "x.x", ".xx", "xxx"} {
				numbers, changes := []int{1, 2, 3}, []int{4, 5, 6}
				numbers[i] = wrong
				if l := Fill(numbers, marks(touched), changes); len(l) != 0 {
					t.Error(numbers, touched, l)
				}
				if l := Fill(changes, marks(touched), numbers); len(l) != 0 {
					t.Error(touched, numbers, l)
				}
			}
		}
	}
	for _, edge := range []int{-32768, 32767} {
		for i := range 3 {
			numbers, changes := []int{1, 2, 3}, []int{4, 5, 6}
			numbers[i], changes[2-i] = edge, edge
			expectFill(t, numbers, marks("x.x"), changes)
		}
	}
}

func drawn(contours ...[]api.Point) api.Outline { return api.Outline{Contours: contours} }

func made(parts ...api.Part) api.Outline { return api.Outline{Parts: parts} }

func TestCount(t *testing.T) {
	three, two := make([]api.Point, 3), make([]api.Point, 2)
	for _, x := range []struct {
		o    api.Outline
		want int
	}{
		{api.Outline{}, 0},
		{drawn(), 0},
		{drawn(three), 3},
		{drawn(three, two), 5},
		{drawn(three, nil, two, nil), 5},
		{drawn(nil, nil), 0},
		{made(make([]api.Part, 1)...), 1},
		{made(make([]api.Part, 6)...), 6},
		{made(make([]api.Part, 7)...), 7},
		{drawn(make([]api.Point, 80)), 80},
		{drawn(make([]api.Point, 81)), 81},
		{drawn(slices.Repeat([][]api.Point{three}, 11)...), 33},
		{api.Outline{Contours: [][]api.Point{three, two}, Parts: make([]api.Part, 4)}, 9},
		{api.Outline{Contours: [][]api.Point{nil}, Parts: make([]api.Part, 4)}, 4},
		{drawn([]api.Point{{X: 1 << 20}, {Y: -1 << 20}}), 2},
	} {
		if n := Count(x.o); n != x.want {
			t.Error(x.o, n, x.want)
		}
	}
}

// spread is what the chapter says of an outline that is formed.
func spread(o api.Outline, points, dx, dy []int) (x, y []string) {
	n := len(o.Parts)
	for _, c := range o.Contours {
		n += len(c)
	}
	touched, changesX, changesY := make([]bool, n), make([]int, n), make([]int, n)
	for i, p := range points {
		touched[p], changesX[p], changesY[p] = true, dx[i], dy[i]
	}
	for i := range o.Parts {
		x = append(x, told(big.NewRat(int64(changesX[i]), 1)))
		y = append(y, told(big.NewRat(int64(changesY[i]), 1)))
	}
	for _, c := range o.Contours {
		var numbersX, numbersY []int
		for _, p := range c {
			numbersX, numbersY = append(numbersX, p.X), append(numbersY, p.Y)
		}
		n := len(c)
		x = append(x, model(numbersX, touched[:n], changesX[:n])...)
		y = append(y, model(numbersY, touched[:n], changesY[:n])...)
		touched, changesX, changesY = touched[n:], changesX[n:], changesY[n:]
	}
	return x, y
}

func expectSpread(t *testing.T, o api.Outline, points, dx, dy []int) {
	t.Helper()
	x, y, e := Spread(o, points, dx, dy)
	gotX, gotY := texts(t, x), texts(t, y)
	wantX, wantY := spread(o, points, dx, dy)
	if e != api.OK || !slices.Equal(gotX, wantX) || !slices.Equal(gotY, wantY) {
		t.Error(o, points, dx, dy, "is", gotX, gotY, e, "not", wantX, wantY)
	}
	if len(x) != Count(o) || len(y) != Count(o) {
		t.Error(o, len(x), len(y))
	}
}

func expectErrForm(t *testing.T, o api.Outline, points, dx, dy []int) {
	t.Helper()
	if x, y, e := Spread(o, points, dx, dy); e != api.ErrForm || len(x) != 0 || len(y) != 0 {
		t.Error(o, points, dx, dy, "is", x, y, e)
	}
}

// square is two contours: four corners and the middles of two sides, and three points on a line.
func square() api.Outline {
	return drawn(
		[]api.Point{{X: 0, Y: 0}, {X: 50, Y: 0}, {X: 100, Y: 0}, {X: 100, Y: 100}, {X: 25, Y: 100}, {X: 0, Y: 100}},
		[]api.Point{{X: 10, Y: 5}, {X: 20, Y: 5}, {X: 40, Y: 5}},
	)
}

func TestSpreadOfContours(t *testing.T) {
	x, y, e := Spread(square(), []int{0, 2, 5, 6, 8}, []int{0, 10, 0, 7, 1}, []int{0, 0, 30, 2, 3})
	if l := texts(t, x); e != api.OK || !slices.Equal(l, []string{"0", "5", "10", "10", "5/2", "0", "7", "5", "1"}) {
		t.Error(l, e)
	}
	if l := texts(t, y); !slices.Equal(l, []string{"0", "0", "0", "30", "30", "30", "2", "0", "3"}) {
		t.Error(l)
	}
	// Nothing goes from contour to contour.
	x, y, e = Spread(square(), []int{5}, []int{-3}, []int{4})
	if l := texts(t, x); e != api.OK || !slices.Equal(l, []string{"-3", "-3", "-3", "-3", "-3", "-3", "0", "0", "0"}) {
		t.Error(l, e)
	}
	if l := texts(t, y); !slices.Equal(l, []string{"4", "4", "4", "4", "4", "4", "0", "0", "0"}) {
		t.Error(l)
	}
	expectSpread(t, square(), nil, nil, nil)
	expectSpread(t, square(), []int{}, []int{}, []int{})
	expectSpread(t, square(), []int{6}, []int{1}, []int{2})
	expectSpread(t, square(), []int{0, 1, 2, 3, 4, 5, 6, 7, 8}, []int{1, 2, 3, 4, 5, 6, 7, 8, 9}, []int{9, 8, 7, 6, 5, 4, 3, 2, 1})
}

// TestSpreadInEachWay touches points of the square in all ways.
func TestSpreadInEachWay(t *testing.T) {
	for code := range 1 << 9 {
		var points, dx, dy []int
		for i := range 9 {
			if code>>i&1 == 1 {
				points, dx, dy = append(points, i), append(dx, i*i-7), append(dy, 5-3*i)
			}
		}
		expectSpread(t, square(), points, dx, dy)
	}
}

func TestSpreadOfParts(t *testing.T) {
	o := made(api.Part{Glyph: 3, DX: 10, DY: 20}, api.Part{Glyph: 4}, api.Part{Glyph: 65535, DX: -32768, DY: 32767})
	x, y, e := Spread(o, []int{0, 2}, []int{5, 7}, []int{-1, 32767})
	if l := texts(t, x); e != api.OK || !slices.Equal(l, []string{"5", "0", "7"}) {
		t.Error(l, e)
	}
	if l := texts(t, y); !slices.Equal(l, []string{"-1", "0", "32767"}) {
		t.Error(l)
	}
	x, y, e = Spread(o, []int{1}, []int{5}, []int{6})
	if l := texts(t, append(x, y...)); e != api.OK || !slices.Equal(l, []string{"0", "5", "0", "0", "6", "0"}) {
		t.Error(l, e)
	}
	expectSpread(t, o, nil, nil, nil)
	expectSpread(t, o, []int{0, 1, 2}, []int{1, 2, 3}, []int{4, 5, 6})
	expectSpread(t, made(make([]api.Part, 6)...), []int{5}, []int{-32768}, []int{9})
}

func TestSpreadOfNothing(t *testing.T) {
	expectSpread(t, api.Outline{}, nil, nil, nil)
	expectSpread(t, api.Outline{Contours: [][]api.Point{}, Parts: []api.Part{}}, []int{}, []int{}, []int{})
	expectErrForm(t, api.Outline{}, []int{0}, []int{0}, []int{0})
	expectErrForm(t, api.Outline{}, []int{-1}, []int{0}, []int{0})
	expectErrForm(t, api.Outline{}, nil, []int{0}, nil)
}

func TestSpreadOfUnformed(t *testing.T) {
	one := []api.Point{{}}
	for _, o := range []api.Outline{
		drawn(nil), drawn(one, nil), drawn(nil, one), drawn(make([]api.Point, 81)), drawn(make([]api.Point, 40), make([]api.Point, 41)),
		drawn(slices.Repeat([][]api.Point{one}, 11)...), drawn([]api.Point{{}, {X: 32768}}), drawn([]api.Point{{}, {Y: -32769}}),
		made(make([]api.Part, 7)...), made(api.Part{Glyph: -1}), made(api.Part{Glyph: 65536}), made(api.Part{DX: 32768}), made(api.Part{DY: -32769}),
		{Contours: [][]api.Point{one}, Parts: make([]api.Part, 1)},
	} {
		expectErrForm(t, o, nil, nil, nil)
		expectErrForm(t, o, []int{0}, []int{0}, []int{0})
	}
	expectSpread(t, drawn(slices.Repeat([][]api.Point{one}, 10)...), []int{9}, []int{3}, []int{4})
	expectSpread(t, drawn(make([]api.Point, 40), make([]api.Point, 40)), []int{79}, []int{3}, []int{4})
	expectSpread(t, drawn([]api.Point{{X: 32767, Y: -32768}, {X: -32768, Y: 32767}, {}}), []int{0, 1}, []int{9, 3}, []int{4, 8})
}

func TestSpreadOfWrongPoints(t *testing.T) {
	for _, o := range []api.Outline{square(), made(make([]api.Part, 5)...), drawn(make([]api.Point, 1))} {
		n := Count(o)
		for _, points := range [][]int{
			{-1}, {n}, {n + 1}, {math.MinInt}, {math.MaxInt}, {0, 0}, {n - 1, n - 1}, {n - 1, n}, {0, n}, {-1, 0}, {0, -1}, {n - 1, 0, n}, {0, 65536},
		} {
			l := make([]int, len(points))
			expectErrForm(t, o, points, l, l)
		}
		expectSpread(t, o, []int{0}, []int{1}, []int{2})
		expectSpread(t, o, []int{n - 1}, []int{1}, []int{2})
	}
	expectErrForm(t, square(), []int{1, 3, 2}, []int{0, 0, 0}, []int{0, 0, 0})
	expectErrForm(t, square(), []int{8, 7}, []int{0, 0}, []int{0, 0})
	expectErrForm(t, square(), []int{6, 0}, []int{0, 0}, []int{0, 0})
	expectSpread(t, square(), []int{1, 2, 3}, []int{0, 0, 0}, []int{0, 0, 0})
}

func TestSpreadOfWrongChanges(t *testing.T) {
	for _, o := range []api.Outline{square(), made(make([]api.Part, 5)...)} {
		for n := range 4 {
			for m := range 4 {
				for k := range 4 {
					points := []int{0, 2, 4}[:min(n, 3)]
					dx, dy := make([]int, m), make([]int, k)
					if m == len(points) && k == len(points) {
						expectSpread(t, o, points, dx, dy)
					} else {
						expectErrForm(t, o, points, dx, dy)
					}
				}
			}
		}
		for _, wrong := range outside() {
			for i := range 3 {
				right, l := []int{-32768, 0, 32767}, []int{1, 2, 3}
				l[i] = wrong
				expectErrForm(t, o, []int{0, 2, 4}, right, l)
				expectErrForm(t, o, []int{0, 2, 4}, l, right)
				expectErrForm(t, o, []int{0, 2, 4}, l, l)
				expectSpread(t, o, []int{0, 2, 4}, right, right)
			}
		}
	}
}

// outlineAny is a formed outline, with numbers, rising, of some of what it has.
func outlineAny(r *rand.Rand) (o api.Outline, points, dx, dy []int) {
	if r.Intn(5) == 0 {
		for range r.Intn(7) {
			o.Parts = append(o.Parts, api.Part{Glyph: r.Intn(65536), DX: number(r), DY: number(r)})
		}
	} else {
		for range r.Intn(11) {
			var c []api.Point
			for range 1 + r.Intn(8) {
				c = append(c, api.Point{X: number(r), Y: number(r), On: r.Intn(2) == 0})
			}
			o.Contours = append(o.Contours, c)
		}
	}
	few := 1 + r.Intn(5)
	for i := range Count(o) {
		if r.Intn(few) == 0 {
			points, dx, dy = append(points, i), append(dx, number(r)), append(dy, number(r))
		}
	}
	return o, points, dx, dy
}

func TestDrawnOutlines(t *testing.T) {
	r := rand.New(rand.NewSource(3))
	for range 2000 {
		o, points, dx, dy := outlineAny(r)
		expectSpread(t, o, points, dx, dy)
		if len(points) == 0 {
			continue
		}
		i := r.Intn(len(points))
		wrong := slices.Clone(points)
		wrong[i] += []int{1, -1, 100, -100}[r.Intn(4)]
		last, sound := -1, true
		for _, p := range wrong {
			sound = sound && p > last && p < Count(o)
			last = p
		}
		if sound {
			expectSpread(t, o, wrong, dx, dy)
		} else {
			expectErrForm(t, o, wrong, dx, dy)
		}
		expectErrForm(t, o, points[1:], dx, dy)
		expectErrForm(t, o, points, dx[1:], dy)
		expectErrForm(t, o, points, dx, dy[1:])
	}
}

// turned is a list that begins at another place.
func turned[T any](l []T, by int) []T { return slices.Concat(l[by:], l[:by]) }

func reversed[T any](l []T) []T {
	l = slices.Clone(l)
	slices.Reverse(l)
	return l
}

// TestWhatFollows: touched ones keep their changes, others stay between, and no contour has a beginning or a way round.
func TestWhatFollows(t *testing.T) {
	r := rand.New(rand.NewSource(4))
	for range 1500 {
		n := 1 + r.Intn(40)
		numbers, touched, changes := contourAny(r, n)
		filled := Fill(numbers, touched, changes)
		least, most := math.MaxInt, math.MinInt
		for i, is := range touched {
			if is {
				least, most = min(least, changes[i]), max(most, changes[i])
			}
		}
		for i, x := range filled {
			if touched[i] && ratio.Cmp(x, ratio.Whole(int64(changes[i]))) != 0 {
				t.Error(numbers, touched, changes, i, ratio.Text(x))
			}
			inside := least <= most && ratio.Cmp(x, ratio.Whole(int64(least))) >= 0 && ratio.Cmp(x, ratio.Whole(int64(most))) <= 0
			if !inside && ratio.Sign(x) != 0 {
				t.Error(numbers, touched, changes, i, ratio.Text(x))
			}
		}
		l, by := texts(t, filled), r.Intn(n)
		if other := texts(t, Fill(turned(numbers, by), turned(touched, by), turned(changes, by))); !slices.Equal(other, turned(l, by)) {
			t.Error(numbers, touched, changes, by, l, other)
		}
		if other := texts(t, Fill(reversed(numbers), reversed(touched), reversed(changes))); !slices.Equal(other, reversed(l)) {
			t.Error(numbers, touched, changes, l, other)
		}
	}
}

// TestUntouchedChangesDoNotMatter: what stands at those that aren't touched is not looked at, so long as it is a field.
func TestUntouchedChangesDoNotMatter(t *testing.T) {
	r := rand.New(rand.NewSource(5))
	for range 500 {
		numbers, touched, changes := contourAny(r, r.Intn(30))
		l := texts(t, Fill(numbers, touched, changes))
		for i, is := range touched {
			if !is {
				changes[i] = number(r)
			}
		}
		if other := texts(t, Fill(numbers, touched, changes)); !slices.Equal(other, l) {
			t.Error(numbers, touched, changes, l, other)
		}
	}
}

// roomy is l with more room behind it, filled with x.
func roomy[T any](l []T, x T) []T {
	return append(slices.Clone(l), x, x, x)[:len(l)]
}

// leftAlone is whether a list made by roomy, and its room, are as they were.
func leftAlone[T comparable](l, was []T, x T) bool {
	return slices.Equal(l[:len(was)+3], append(slices.Clone(was), x, x, x))
}

func TestArgumentsAreLeft(t *testing.T) {
	numbers, touched, changes := roomy([]int{0, 5, 10, 7}, 77), roomy(marks("x.x."), true), roomy([]int{1, 2, 30, 4}, 77)
	Fill(numbers, touched, changes)
	Fill(numbers, touched, changes[:3])
	if !leftAlone(numbers, []int{0, 5, 10, 7}, 77) || !leftAlone(touched, marks("x.x."), true) || !leftAlone(changes, []int{1, 2, 30, 4}, 77) {
		t.Error(numbers[:7], touched[:7], changes[:7])
	}
	spare, part := api.Point{X: 77, On: true}, api.Part{Glyph: 77}
	was := square().Contours
	o := drawn(roomy([][]api.Point{roomy(was[0], spare), roomy(was[1], spare)}, []api.Point{spare})...)
	p := made(roomy(make([]api.Part, 5), part)...)
	points, dx, dy := roomy([]int{0, 2, 4}, 77), roomy([]int{1, 2, 3}, 77), roomy([]int{4, 5, 6}, 77)
	for _, x := range []api.Outline{o, p} {
		Count(x)
		Spread(x, points, dx, dy)
		Spread(x, points, dx, dy[:2])
	}
	if !leftAlone(points, []int{0, 2, 4}, 77) || !leftAlone(dx, []int{1, 2, 3}, 77) || !leftAlone(dy, []int{4, 5, 6}, 77) {
		t.Error(points[:6], dx[:6], dy[:6])
	}
	for i, c := range o.Contours[:2] {
		if !leftAlone(c, was[i], spare) {
			t.Error(c)
		}
	}
	for _, c := range o.Contours[:5][2:] {
		if !slices.Equal(c, []api.Point{spare}) {
			t.Error(c)
		}
	}
	if !leftAlone(p.Parts, make([]api.Part, 5), part) {
		t.Error(p.Parts[:8])
	}
}

// scribble fills a list, and the room behind it, with x.
func scribble[T any](l []T, x T) {
	for i := range l[:cap(l)] {
		l[:cap(l)][i] = x
	}
}

// expectApart scribbles on fractions one by one: all that come behind must stay as they were.
func expectApart(t *testing.T, l []ratio.Ratio) {
	t.Helper()
	was := texts(t, l)
	for i, x := range l {
		below := slices.Clone(x.Den)
		scribble(x.Num, 77)
		if !slices.Equal(x.Den, below) {
			t.Error("a numerator shares memory with its denominator:", x)
		}
		scribble(x.Den, 99)
		for k := i + 1; k < len(l); k++ {
			if ratio.Text(l[k]) != was[k] {
				t.Error("fractions", i, k, "share memory")
			}
		}
	}
}

func TestAnswersAreNew(t *testing.T) {
	numbers, changes := []int{0, 5, 10, 3, 10, 20}, []int{7, 0, 8, 7, 7, 7}
	for _, touched := range []string{"......", "x.....", "x.x...", "xxxxxx", "...x.x", "x...x."} {
		expectApart(t, Fill(numbers, marks(touched), changes))
		expectFill(t, numbers, marks(touched), changes)
	}
	for _, o := range []api.Outline{square(), made(make([]api.Part, 5)...)} {
		for _, points := range [][]int{{}, {0}, {0, 2}, {0, 1, 2, 3, 4}} {
			l := slices.Repeat([]int{5}, len(points))
			x, y, _ := Spread(o, points, l, l)
			// First the lists themselves, then what their fractions hold.
			kept := append(slices.Clone(x), y...)
			scribble(x, ratio.Whole(99))
			for i, z := range y {
				if ratio.Text(z) != ratio.Text(kept[len(x)+i]) {
					t.Error("the two lists share memory")
				}
			}
			expectApart(t, kept)
			expectSpread(t, o, points, l, l)
		}
	}
}

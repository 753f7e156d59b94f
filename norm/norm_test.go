package norm

import (
	"math"
	"math/big"
	"math/rand"
	"slices"
	"strconv"
	"testing"

	"foundry/api"
	"foundry/nat"
	"foundry/ratio"
)

const (
	least32 = math.MinInt32
	most32  = math.MaxInt32
)

// chapter is the bend of layer 7's example.
func chapter() []api.Pair {
	return []api.Pair{{From: -16384, To: -16384}, {}, {From: 8192, To: 4096}, {From: 16384, To: 16384}}
}

// straight is a formed bend of n pairs, 3 or more, that bends nothing.
func straight(n int) []api.Pair {
	l := []api.Pair{{From: -16384, To: -16384}, {}}
	for i := range n - 3 {
		l = append(l, api.Pair{From: i + 1, To: i + 1})
	}
	return append(l, api.Pair{From: 16384, To: 16384})
}

// steep is a bend that makes much of the least way from 0, and nothing of what is farther.
func steep() []api.Pair {
	return []api.Pair{{From: -16384, To: -16384}, {From: -1, To: -16384}, {}, {From: 1, To: 16384}, {From: 16384, To: 16384}}
}

// flat is a bend that makes nothing of all but the last way to the ends.
func flat() []api.Pair {
	return []api.Pair{{From: -16384, To: -16384}, {From: -16383, To: 0}, {}, {From: 16383, To: 0}, {From: 16384, To: 16384}}
}

// formedBends are bends of all kinds.
func formedBends() [][]api.Pair {
	return [][]api.Pair{
		nil, {}, chapter(), straight(3), straight(16), steep(), flat(),
		{{From: -16384, To: -16384}, {From: -5461, To: -9000}, {}, {From: 3, To: 2}, {From: 5461, To: 2}, {From: 16000, To: 16384}, {From: 16384, To: 16384}},
	}
}

// wrongBends are bends that aren't formed.
func wrongBends() map[string][]api.Pair {
	return map[string][]api.Pair{
		"0":          {{}},
		"two ends":   {{From: -16384, To: -16384}, {From: 16384, To: 16384}},
		"no 0":       {{From: -16384, To: -16384}, {From: 1, To: 1}, {From: 16384, To: 16384}},
		"upper half": chapter()[1:],
		"lower half": chapter()[:3],
		"17":         straight(17),
		"twice":      {{From: -16384, To: -16384}, {}, {}, {From: 16384, To: 16384}},
		"falls":      {{From: -16384, To: -16384}, {}, {From: 5, To: -1}, {From: 16384, To: 16384}},
		"beyond":     {{From: -16384, To: -16384}, {}, {From: 16384, To: 16384}, {From: 16385, To: 16385}},
	}
}

// some are n axes, formed if these are at most 4.
func some(n int) []api.Axis {
	var l []api.Axis
	for i := range n {
		l = append(l, api.Axis{Tag: "ax" + strconv.Itoa(10+i), Least: -3 - i*65536, Usual: i * 7, Most: 65536*i + 5})
	}
	return l
}

// wrongAxes are axes that aren't formed.
func wrongAxes() map[string][]api.Axis {
	return map[string][]api.Axis{
		"5":                some(5),
		"no tag":           {{}},
		"bad tag":          {{Tag: "ab\x7fd", Most: 1}},
		"short tag":        {some(1)[0], {Tag: "abc", Most: 1}},
		"twice":            {{Tag: "abcd"}, {Tag: "efgh"}, {Tag: "abcd", Most: 1}},
		"Least over Usual": {{Tag: "abcd", Least: 1, Most: 5}},
		"Usual over Most":  {{Tag: "abcd", Usual: 6, Most: 5}},
		"Least too low":    {{Tag: "abcd", Least: least32 - 1}},
		"Most too high":    {some(1)[0], some(2)[1], {Tag: "abcd", Most: most32 + 1}},
		"last is wrong":    append(some(3), api.Axis{Tag: "abcd", Most: -1}),
	}
}

// places are of every length, and at values about those at which something changes.
func places() [][]int {
	return [][]int{nil, {}, {0}, {1, 2}, {-9, 9, -9, 9}, {3, 1 << 20, -1 << 20, 70000, 5}, {math.MinInt, math.MaxInt, math.MinInt, math.MaxInt, 0, 0}}
}

// expectFit fails unless Fit says want, and At and Exact answer ErrForm alone where it is false.
func expectFit(t *testing.T, name string, l []api.Axis, bends [][]api.Pair, want bool) {
	t.Helper()
	if got := Fit(l, bends); got != want {
		t.Errorf("%s: %v", name, got)
	}
	for _, place := range places() {
		c, e := At(l, bends, place)
		x, f := Exact(l, bends, place)
		switch {
		case want && (e != api.OK || f != api.OK || len(c) != len(l) || len(x) != len(l)):
			t.Errorf("%s at %v: %v, error %d; %v, error %d", name, place, c, e, x, f)
		case !want && (e != api.ErrForm || f != api.ErrForm || len(c) != 0 || len(x) != 0):
			t.Errorf("%s at %v: %v, error %d; %v, error %d", name, place, c, e, x, f)
		}
	}
}

func TestFitByCounts(t *testing.T) {
	for n := range 8 {
		for m := range 8 {
			name := strconv.Itoa(n) + " axes, " + strconv.Itoa(m) + " bends"
			fits := n <= 4 && (m == 0 || m == n)
			expectFit(t, name, some(n), make([][]api.Pair, m), fits)
			expectFit(t, name, some(n), slices.Repeat([][]api.Pair{chapter()}, m), fits)
		}
		expectFit(t, strconv.Itoa(n), some(n), nil, n <= 4)
	}
	expectFit(t, "nothing", nil, nil, true)
	expectFit(t, "empty", []api.Axis{}, [][]api.Pair{}, true)
	expectFit(t, "bends alone", nil, [][]api.Pair{nil}, false)
	expectFit(t, "many", some(50000), make([][]api.Pair, 50000), false)
	expectFit(t, "many bends", some(3), make([][]api.Pair, 50000), false)
}

func TestFitByAxes(t *testing.T) {
	for name, l := range wrongAxes() {
		expectFit(t, name, l, nil, false)
		expectFit(t, name, l, make([][]api.Pair, len(l)), false)
		expectFit(t, name, l, slices.Repeat([][]api.Pair{chapter()}, len(l)), false)
	}
}

func TestFitByBends(t *testing.T) {
	for n := 1; n <= 4; n++ {
		for at := range n {
			for i, pairs := range formedBends() {
				bends := slices.Repeat([][]api.Pair{straight(5)}, n)
				bends[at] = pairs
				expectFit(t, strconv.Itoa(i), some(n), bends, true)
			}
			for name, pairs := range wrongBends() {
				bends := slices.Repeat([][]api.Pair{nil}, n)
				bends[at] = pairs
				expectFit(t, name, some(n), bends, false)
			}
		}
	}
	for name, pairs := range wrongBends() {
		expectFit(t, name+" without axes", nil, [][]api.Pair{pairs}, false)
		for wrong, l := range wrongAxes() {
			expectFit(t, name+", "+wrong, l, slices.Repeat([][]api.Pair{pairs}, len(l)), false)
		}
	}
}

// plain is what layer 6 says of a plain coordinate, by another library's fractions.
func plain(a api.Axis, u int) *big.Rat {
	u = max(a.Least, min(u, a.Most))
	switch {
	case u < a.Usual:
		return big.NewRat(int64(u-a.Usual), int64(a.Usual-a.Least))
	case u > a.Usual:
		return big.NewRat(int64(u-a.Usual), int64(a.Most-a.Usual))
	}
	return new(big.Rat)
}

// bent is what layer 7 says comes of x, which lies from -1 to 1.
func bent(l []api.Pair, x *big.Rat) *big.Rat {
	if len(l) == 0 {
		return x
	}
	y := new(big.Rat).Mul(x, big.NewRat(16384, 1))
	at := 0
	for y.Cmp(big.NewRat(int64(l[at+1].From), 1)) > 0 {
		at++
	}
	a, b := l[at], l[at+1]
	y.Sub(y, big.NewRat(int64(a.From), 1))
	y.Mul(y, big.NewRat(int64(b.To-a.To), int64(b.From-a.From)))
	y.Add(y, big.NewRat(int64(a.To), 1))
	return y.Quo(y, big.NewRat(16384, 1))
}

// rounded is 2^14 times x and one half, brought down to a whole number: Euclid's quotient is that, where the divisor is above 0.
func rounded(x *big.Rat) int {
	y := new(big.Rat).Mul(x, big.NewRat(16384, 1))
	y.Add(y, big.NewRat(1, 2))
	return int(new(big.Int).Div(y.Num(), y.Denom()).Int64())
}

// expectPlace fails unless At and Exact answer of axes and bends that fit what the chapter says.
func expectPlace(t *testing.T, l []api.Axis, bends [][]api.Pair, place []int) {
	t.Helper()
	c, e := At(l, bends, place)
	x, f := Exact(l, bends, place)
	if e != api.OK || f != api.OK || len(c) != len(l) || len(x) != len(l) {
		t.Fatalf("%v, %v at %v: %v, error %d; %v, error %d", l, bends, place, c, e, x, f)
	}
	for i, a := range l {
		u := a.Usual
		if i < len(place) {
			u = place[i]
		}
		want := plain(a, u)
		if len(bends) > 0 {
			want = bent(bends[i], want)
		}
		if got := ratio.Text(x[i]); got != want.RatString() || !ratio.Formed(x[i]) {
			t.Fatalf("%v, %v at %v, axis %d: %s, want %s", l, bends, place, i, got, want.RatString())
		}
		if c[i] != rounded(want) {
			t.Fatalf("%v, %v at %v, axis %d: %d, want %d", l, bends, place, i, c[i], rounded(want))
		}
	}
}

func TestAtOfTheChapter(t *testing.T) {
	l := []api.Axis{{Tag: "wght", Least: 100, Usual: 400, Most: 900}}
	for _, c := range []struct{ value, straight, bent int }{
		{650, 8192, 4096}, {400, 0, 0}, {900, 16384, 16384}, {901, 16384, 16384}, {1000, 16384, 16384}, {math.MaxInt, 16384, 16384},
		{100, -16384, -16384}, {99, -16384, -16384}, {math.MinInt, -16384, -16384}, {250, -8192, -8192}, {775, 12288, 10240}, {401, 33, 16},
		{399, -55, -55}, {525, 4096, 2048},
	} {
		if got, e := At(l, nil, []int{c.value}); e != api.OK || !slices.Equal(got, []int{c.straight}) {
			t.Errorf("%d: %v, error %d, want %d", c.value, got, e, c.straight)
		}
		if got, e := At(l, [][]api.Pair{chapter()}, []int{c.value}); e != api.OK || !slices.Equal(got, []int{c.bent}) {
			t.Errorf("%d, bent: %v, error %d, want %d", c.value, got, e, c.bent)
		}
	}
	for want, bends := range map[string][][]api.Pair{"1/2": {nil}, "1/4": {chapter()}} {
		if x, e := Exact(l, bends, []int{650}); e != api.OK || len(x) != 1 || ratio.Text(x[0]) != want {
			t.Errorf("%v: %v, error %d", bends, x, e)
		}
	}
}

// TestRoundedOnce asks for fractions that rounding ahead of the bend, or another rounding, would lose.
func TestRoundedOnce(t *testing.T) {
	l := []api.Axis{{Tag: "wght", Least: -65536, Usual: 0, Most: 65536}}
	for _, c := range []struct {
		pairs []api.Pair
		value int
		exact string
		want  int
	}{
		{nil, 1, "1/65536", 0}, {nil, 2, "1/32768", 1}, {nil, 3, "3/65536", 1}, {nil, 6, "3/32768", 2},
		{nil, -1, "-1/65536", 0}, {nil, -2, "-1/32768", 0}, {nil, -3, "-3/65536", -1}, {nil, -6, "-3/32768", -1},
		{steep(), 1, "1/4", 4096}, {steep(), 2, "1/2", 8192}, {steep(), 3, "3/4", 12288}, {steep(), 4, "1", 16384}, {steep(), 5, "1", 16384},
		{steep(), -1, "-1/4", -4096}, {steep(), -2, "-1/2", -8192}, {steep(), -3, "-3/4", -12288}, {steep(), -4, "-1", -16384},
		{flat(), 65535, "3/4", 12288}, {flat(), 65534, "1/2", 8192}, {flat(), 65532, "0", 0}, {flat(), -65535, "-3/4", -12288}, {flat(), -65532, "0", 0},
		{chapter(), 1, "1/131072", 0}, {chapter(), 3, "3/131072", 0}, {chapter(), 4, "1/32768", 1}, {chapter(), -2, "-1/32768", 0},
	} {
		x, e := Exact(l, [][]api.Pair{c.pairs}, []int{c.value})
		if e != api.OK || ratio.Text(x[0]) != c.exact {
			t.Errorf("%v at %d: %v, error %d, want %s", c.pairs, c.value, x, e, c.exact)
		}
		n, e := At(l, [][]api.Pair{c.pairs}, []int{c.value})
		if e != api.OK || n[0] != c.want {
			t.Errorf("%v at %d: %v, error %d, want %d", c.pairs, c.value, n, e, c.want)
		}
	}
}

func TestPlacesThatAreFilledUp(t *testing.T) {
	l := []api.Axis{{Tag: "aaaa", Least: -4, Usual: 3, Most: 7}, {Tag: "bbbb", Least: 9, Usual: 10, Most: 30}, {Tag: "cccc", Least: -5, Usual: -5, Most: 5}}
	for _, c := range []struct{ place, want []int }{
		{nil, []int{0, 0, 0}},
		{[]int{5}, []int{8192, 0, 0}},
		{[]int{-4, 15}, []int{-16384, 4096, 0}},
		{[]int{3, 9, 0}, []int{0, -16384, 8192}},
		{[]int{-8, -8, -8}, []int{-16384, -16384, 0}},
		{[]int{8, 31, 6, 1, 2, 3}, []int{16384, 16384, 16384}},
		{[]int{math.MinInt, math.MaxInt, math.MinInt, math.MaxInt}, []int{-16384, 16384, 0}},
	} {
		if got, e := At(l, nil, c.place); e != api.OK || !slices.Equal(got, c.want) {
			t.Errorf("%v: %v, error %d, want %v", c.place, got, e, c.want)
		}
	}
	for _, place := range places() {
		if c, e := At(nil, nil, place); e != api.OK || len(c) != 0 {
			t.Error(c, e)
		}
		if x, e := Exact(nil, nil, place); e != api.OK || len(x) != 0 {
			t.Error(x, e)
		}
	}
}

// TestEachAxisHasItsOwnBend lays two bends on two like axes, either way round.
func TestEachAxisHasItsOwnBend(t *testing.T) {
	l := []api.Axis{{Tag: "aaaa", Most: 4}, {Tag: "bbbb", Most: 4}, {Tag: "cccc", Most: 4}}
	for _, c := range []struct {
		bends [][]api.Pair
		want  []int
	}{
		{[][]api.Pair{chapter(), nil, steep()}, []int{4096, 8192, 16384}},
		{[][]api.Pair{steep(), chapter(), {}}, []int{16384, 4096, 8192}},
		{[][]api.Pair{nil, flat(), chapter()}, []int{8192, 0, 4096}},
		{[][]api.Pair{}, []int{8192, 8192, 8192}},
	} {
		if got, e := At(l, c.bends, []int{2, 2, 2}); e != api.OK || !slices.Equal(got, c.want) {
			t.Errorf("%v: %v, error %d", c.bends, got, e)
		}
	}
}

// drawnAxes are formed axes of any width, often of none on a side.
func drawnAxes(r *rand.Rand) []api.Axis {
	l := some(r.Intn(5))
	for i := range l {
		wide := []int64{1, 3, 1000, 1 << 20, 1 << 32}[r.Intn(5)]
		v := make([]int, 3)
		for j := range v {
			v[j] = int(r.Int63n(wide) - wide/2)
		}
		slices.Sort(v)
		l[i].Least, l[i].Usual, l[i].Most = v[0], v[1], v[2]
	}
	return l
}

// drawnBends are as many formed bends as axes, or none.
func drawnBends(r *rand.Rand, n int) [][]api.Pair {
	if r.Intn(4) == 0 {
		return nil
	}
	bends := make([][]api.Pair, n)
	for i := range bends {
		bends[i] = drawn(r)
	}
	return bends
}

// drawn is a formed bend that is known, or one with a pair drawn on either side.
func drawn(r *rand.Rand) []api.Pair {
	if known := formedBends(); r.Intn(2) == 0 {
		return known[r.Intn(len(known))]
	}
	return []api.Pair{
		{From: -16384, To: -16384}, {From: -1 - r.Intn(16383), To: -r.Intn(16385)}, {},
		{From: 1 + r.Intn(16383), To: r.Intn(16385)}, {From: 16384, To: 16384},
	}
}

// drawnPlace is a place of axes, often too short or too long, with values in and out of them.
func drawnPlace(r *rand.Rand, l []api.Axis) []int {
	place := make([]int, r.Intn(7))
	for i := range place {
		if i >= len(l) {
			continue
		}
		place[i] = drawnValue(r, l[i])
	}
	return place
}

func drawnValue(r *rand.Rand, a api.Axis) int {
	edges := []int{a.Least - 1, a.Least, a.Least + 1, a.Usual - 1, a.Usual, a.Usual + 1, a.Most - 1, a.Most, a.Most + 1, math.MinInt, math.MaxInt}
	if r.Intn(3) == 0 {
		return edges[r.Intn(len(edges))]
	}
	return a.Least + int(r.Int63n(int64(a.Most-a.Least)+1))
}

func TestAtOfAllKinds(t *testing.T) {
	r := rand.New(rand.NewSource(1))
	for range 4000 {
		l := drawnAxes(r)
		bends := drawnBends(r, len(l))
		for range 5 {
			expectPlace(t, l, bends, drawnPlace(r, l))
		}
	}
	wide := []api.Axis{{Tag: "aaaa", Least: least32, Usual: most32, Most: most32}, {Tag: "bbbb", Least: least32, Usual: least32, Most: most32}, {Tag: "cccc", Least: least32, Most: most32}, {Tag: "dddd"}}
	for _, pairs := range formedBends() {
		for _, u := range []int{math.MinInt, least32 - 1, least32, least32 + 1, -65536, -1, 0, 1, 65536, most32 - 1, most32, most32 + 1, 1 << 40, math.MaxInt} {
			expectPlace(t, wide, slices.Repeat([][]api.Pair{pairs}, 4), []int{u, u, u, u})
		}
	}
}

// TestAtEveryValue asks one axis whole, by every bend.
func TestAtEveryValue(t *testing.T) {
	l := []api.Axis{{Tag: "wght", Least: -300, Usual: -7, Most: 1000}}
	for _, pairs := range formedBends() {
		for u := -305; u <= 1005; u++ {
			expectPlace(t, l, [][]api.Pair{pairs}, []int{u})
		}
	}
}

// TestAllAreCoordinates: whatever the place, and 0 at the usual values.
func TestAllAreCoordinates(t *testing.T) {
	r := rand.New(rand.NewSource(2))
	for range 3000 {
		l := drawnAxes(r)
		bends := drawnBends(r, len(l))
		c, _ := At(l, bends, drawnPlace(r, l))
		x, _ := Exact(l, bends, drawnPlace(r, l))
		for i := range l {
			if c[i] < -16384 || c[i] > 16384 || ratio.Cmp(x[i], ratio.Whole(-1)) < 0 || ratio.Cmp(x[i], ratio.Whole(1)) > 0 {
				t.Fatalf("%v, %v: %v, %v", l, bends, c, x)
			}
		}
		for _, place := range [][]int{Usual(l), nil, append(Usual(l), 9)} {
			c, e := At(l, bends, place)
			x, f := Exact(l, bends, place)
			if e != api.OK || f != api.OK || !slices.Equal(c, make([]int, len(l))) {
				t.Fatalf("%v, %v at the usual values: %v, errors %d, %d", l, bends, c, e, f)
			}
			for i := range l {
				if !ratio.Formed(x[i]) || ratio.Sign(x[i]) != 0 {
					t.Fatalf("%v, %v at the usual values: %v", l, bends, x)
				}
			}
		}
	}
}

// TestGreaterValues: they make no less a coordinate there, and change no other one.
func TestGreaterValues(t *testing.T) {
	r := rand.New(rand.NewSource(3))
	for range 3000 {
		l := drawnAxes(r)
		if len(l) == 0 {
			continue
		}
		bends := drawnBends(r, len(l))
		place := make([]int, len(l))
		for i := range place {
			place[i] = drawnValue(r, l[i])
		}
		at := r.Intn(len(l))
		greater := slices.Clone(place)
		greater[at] = max(place[at], drawnValue(r, l[at]))
		c, _ := At(l, bends, place)
		d, _ := At(l, bends, greater)
		x, _ := Exact(l, bends, place)
		y, _ := Exact(l, bends, greater)
		for i := range l {
			if i == at && (d[i] < c[i] || ratio.Cmp(y[i], x[i]) < 0) || i != at && (d[i] != c[i] || ratio.Cmp(y[i], x[i]) != 0) {
				t.Fatalf("%v, %v: %v at %v, %v at %v", l, bends, c, place, d, greater)
			}
		}
	}
}

func TestUsual(t *testing.T) {
	for name, c := range map[string]struct {
		l    []api.Axis
		want []int
	}{
		"none":     {nil, nil},
		"empty":    {[]api.Axis{}, nil},
		"formed":   {[]api.Axis{{Tag: "wght", Least: 100, Usual: 400, Most: 900}, {Tag: "wdth", Usual: 3, Most: 3}}, []int{400, 3}},
		"unformed": {[]api.Axis{{Usual: 9}, {}, {Tag: "x", Least: 5, Usual: -4, Most: -9}, {Usual: math.MinInt}, {Usual: math.MaxInt}, {Usual: 1 << 40}}, []int{9, 0, -4, math.MinInt, math.MaxInt, 1 << 40}},
		"twice":    {[]api.Axis{{Tag: "wght", Usual: 2, Most: 2}, {Tag: "wght", Usual: 1, Most: 2}}, []int{2, 1}},
	} {
		if got := Usual(c.l); !slices.Equal(got, c.want) {
			t.Errorf("%s: %v", name, got)
		}
	}
	many := some(70000)
	if got := Usual(many); len(got) != len(many) || got[69999] != many[69999].Usual {
		t.Error(len(got))
	}
}

// roomy answers a copy of l that has more room, filled with x.
func roomy[T any](l []T, x T) []T {
	return append(slices.Clone(l), x, x, x)[:len(l)]
}

func TestArgumentsAreLeft(t *testing.T) {
	l, place := roomy(some(2), api.Axis{Tag: "room", Usual: 77}), roomy([]int{1 << 40, -9}, 77)
	pairs := roomy(chapter(), api.Pair{From: 77, To: 77})
	bends := roomy([][]api.Pair{pairs, nil}, chapter())
	for _, fits := range [][][]api.Pair{bends, bends[:1], nil} {
		for _, values := range [][]int{place, place[:1], nil} {
			Fit(l, fits)
			At(l, fits, values)
			Exact(l, fits, values)
			Usual(l)
		}
	}
	if full := l[:5]; !slices.Equal(full[:2], some(2)) || full[2].Tag != "room" || full[4].Usual != 77 {
		t.Error(full)
	}
	if !slices.Equal(place[:5], []int{1 << 40, -9, 77, 77, 77}) {
		t.Error(place[:5])
	}
	if full := pairs[:7]; !slices.Equal(full[:4], chapter()) || full[4].From != 77 || full[6].To != 77 {
		t.Error(full)
	}
	if full := bends[:5]; !slices.Equal(full[0], chapter()) || len(full[1]) != 0 || !slices.Equal(full[2], chapter()) || !slices.Equal(full[4], chapter()) {
		t.Error(full)
	}
}

// scribble writes over all limbs of a fraction, and the room behind them.
func scribble(x ratio.Ratio) {
	for _, limbs := range []nat.Nat{x.Num, x.Den} {
		limbs = limbs[:cap(limbs)]
		for i := range limbs {
			limbs[i] = 123456789
		}
	}
}

func TestAnswersAreNew(t *testing.T) {
	l, place := some(4), []int{2, 2000, 70000, 5}
	for _, bends := range [][][]api.Pair{nil, make([][]api.Pair, 4), {chapter(), nil, steep(), flat()}} {
		for _, at := range [][]int{place, nil, {1 << 40, 1 << 40, 1 << 40, 1 << 40}} {
			want := texts(l, bends, at)
			x, _ := Exact(l, bends, at)
			for i := range x {
				scribble(x[i])
				for j := i + 1; j < len(x); j++ {
					if ratio.Text(x[j]) != want[j] {
						t.Errorf("fractions %d and %d share memory", i, j)
					}
				}
			}
			if got := texts(l, bends, at); !slices.Equal(got, want) {
				t.Errorf("%v, then %v", want, got)
			}
			c, _ := At(l, bends, at)
			kept := slices.Clone(c)
			for i := range c {
				c[i] = 99
			}
			if again, _ := At(l, bends, at); !slices.Equal(again, kept) {
				t.Errorf("%v, then %v", kept, again)
			}
		}
	}
	u := Usual(l)
	u[0] = 99
	if !slices.Equal(l, some(4)) || Usual(l)[0] == 99 || !slices.Equal(place, []int{2, 2000, 70000, 5}) {
		t.Error("an answer hangs on an argument")
	}
}

func texts(l []api.Axis, bends [][]api.Pair, place []int) []string {
	var list []string
	x, _ := Exact(l, bends, place)
	for _, y := range x {
		list = append(list, ratio.Text(y))
	}
	return list
}

package store

import (
	"bytes"
	"encoding/binary"
	"math"
	"math/big"
	"math/rand"
	"slices"
	"strconv"
	"testing"

	"foundry/api"
	"foundry/nat"
	"foundry/ratio"
)

// The chapter's example, and tents that others are made of.
func rising() api.Tent   { return api.Tent{Peak: 16384, End: 16384} }
func hill() api.Tent     { return api.Tent{Peak: 8192, End: 16384} }
func below() api.Tent    { return api.Tent{Start: -16384, Peak: -8192} }
func chapter() api.Store { return api.Store{Regions: [][]api.Tent{{rising()}}, Rows: [][]int{{10}}} }

// mixed is a store of two axes, whose second region holds everywhere.
func mixed() api.Store {
	return api.Store{
		Regions: [][]api.Tent{{rising(), hill()}, {{}, {}}, {below(), {}}},
		Rows:    [][]int{{100, 7, -6}, {-32768, 0, 32767}, {0, 0, 0}},
	}
}

// regular is a formed store of so many regions and rows.
func regular(axes, regions, rows int) api.Store {
	var s api.Store
	for i := range regions {
		region := []api.Tent{}
		for j := range axes {
			region = append(region, api.Tent{Start: i, Peak: i + j + 1, End: i + j + 2})
		}
		s.Regions = append(s.Regions, region)
	}
	for i := range rows {
		row := []int{}
		for j := range regions {
			row = append(row, 3*j-i)
		}
		s.Rows = append(s.Rows, row)
	}
	return s
}

// copied is s in other memory.
func copied(s api.Store) api.Store {
	var c api.Store
	for _, region := range s.Regions {
		c.Regions = append(c.Regions, slices.Clone(region))
	}
	for _, row := range s.Rows {
		c.Rows = append(c.Rows, slices.Clone(row))
	}
	return c
}

// alike answers whether two stores hold the same, lists without elements being all one.
func alike(s, u api.Store) bool {
	return slices.EqualFunc(s.Regions, u.Regions, slices.Equal) && slices.EqualFunc(s.Rows, u.Rows, slices.Equal)
}

func coordinate(n int) bool {
	return -16384 <= n && n <= 16384
}

func wellFormedTent(t api.Tent) bool {
	if !coordinate(t.Start) || !coordinate(t.Peak) || !coordinate(t.End) {
		return false
	}
	everywhere := t == api.Tent{}
	above := t.Peak > 0 && 0 <= t.Start && t.Start < t.Peak && (t.End > t.Peak || t.End == 16384 && t.Peak == 16384)
	under := t.Peak < 0 && t.Peak < t.End && t.End <= 0 && (t.Start < t.Peak || t.Start == -16384 && t.Peak == -16384)
	return everywhere || above || under
}

// wellFormed asks the chapter's words one by one.
func wellFormed(s api.Store, axes int) bool {
	if axes < 0 || axes > 4 || len(s.Regions) > 40 || len(s.Rows) > 400 {
		return false
	}
	for _, region := range s.Regions {
		if len(region) != axes || slices.ContainsFunc(region, func(t api.Tent) bool { return !wellFormedTent(t) }) {
			return false
		}
	}
	for _, row := range s.Rows {
		if len(row) != len(s.Regions) || slices.ContainsFunc(row, func(n int) bool { return n < -32768 || n > 32767 }) {
			return false
		}
	}
	return true
}

// wrongStores are stores that aren't formed, for two axes.
func wrongStores() map[string]api.Store {
	change := func(do func(s *api.Store)) api.Store {
		s := mixed()
		do(&s)
		return s
	}
	return map[string]api.Store{
		"a row too short":         change(func(s *api.Store) { s.Rows[1] = s.Rows[1][:2] }),
		"a row too long":          change(func(s *api.Store) { s.Rows[2] = append(s.Rows[2], 0) }),
		"an empty row":            change(func(s *api.Store) { s.Rows[0] = nil }),
		"a number too great":      change(func(s *api.Store) { s.Rows[2][2] = 32768 }),
		"a number too small":      change(func(s *api.Store) { s.Rows[0][0] = -32769 }),
		"the greatest number":     change(func(s *api.Store) { s.Rows[1][1] = math.MaxInt }),
		"the least number":        change(func(s *api.Store) { s.Rows[1][1] = math.MinInt }),
		"a number that wraps":     change(func(s *api.Store) { s.Rows[1][1] = 1 << 16 }),
		"a region too short":      change(func(s *api.Store) { s.Regions[2] = s.Regions[2][:1] }),
		"a region too long":       change(func(s *api.Store) { s.Regions[0] = append(s.Regions[0], api.Tent{}) }),
		"an empty region":         change(func(s *api.Store) { s.Regions[1] = nil }),
		"a wrong tent":            change(func(s *api.Store) { s.Regions[1][1] = api.Tent{End: 5} }),
		"a tent across 0":         change(func(s *api.Store) { s.Regions[2][0] = api.Tent{Start: -1, Peak: 5, End: 6} }),
		"a tent that jumps":       change(func(s *api.Store) { s.Regions[0][0] = api.Tent{Peak: 5, End: 5} }),
		"a tent out of range":     change(func(s *api.Store) { s.Regions[0][0].End = 16385 }),
		"a region without rows":   change(func(s *api.Store) { s.Regions = append(s.Regions, s.Regions[0]) }),
		"rows without regions":    change(func(s *api.Store) { s.Regions = nil }),
		"41 regions":              regular(2, 41, 3),
		"41 regions without rows": regular(2, 41, 0),
		"401 rows":                regular(2, 3, 401),
		"401 empty rows":          regular(2, 0, 401),
		"very many rows":          regular(2, 0, 70000),
	}
}

func TestFormed(t *testing.T) {
	if !Formed(chapter(), 1) || !Formed(mixed(), 2) {
		t.Error("ordinary stores")
	}
	for axes := range 5 {
		for _, size := range [][2]int{{0, 0}, {0, 1}, {1, 0}, {0, 400}, {40, 0}, {1, 400}, {40, 1}, {40, 400}} {
			s := regular(axes, size[0], size[1])
			for asked := -1; asked <= 6; asked++ {
				// Without regions a store tells nothing of its axes.
				want := asked == axes || size[0] == 0 && asked >= 0 && asked <= 4
				if got := Formed(s, asked); got != want || got != wellFormed(s, asked) {
					t.Errorf("%d axes, asked for %d, %v: %v", axes, asked, size, got)
				}
			}
		}
	}
	for _, axes := range []int{math.MinInt, -1, 5, 1 << 16, math.MaxInt} {
		if Formed(api.Store{}, axes) || Formed(regular(max(0, min(axes, 9)), 1, 1), axes) {
			t.Error(axes, "axes")
		}
	}
	if !Formed(api.Store{Regions: [][]api.Tent{}, Rows: [][]int{}}, 0) {
		t.Error("empty lists")
	}
}

func TestFormedOfWhatIsWrong(t *testing.T) {
	for name, s := range wrongStores() {
		for axes := range 5 {
			if Formed(s, axes) != wellFormed(s, axes) || Formed(s, 2) {
				t.Errorf("%s, %d axes", name, axes)
			}
		}
	}
	for at := range 40 {
		s := regular(1, 40, 2)
		s.Regions[at] = []api.Tent{{Start: 1}}
		u := regular(1, 40, 2)
		u.Rows[at%2][at] = 32768 + at
		if Formed(s, 1) || Formed(u, 1) {
			t.Error("member", at)
		}
	}
	for _, n := range []int{-32768, -32767, 0, 32766, 32767} {
		if !Formed(api.Store{Regions: chapter().Regions, Rows: [][]int{{n}}}, 1) {
			t.Error(n)
		}
	}
}

func TestFits(t *testing.T) {
	many := api.Store{Rows: make([][]int, 1000)}
	for _, c := range []struct {
		name string
		s    api.Store
		slot api.Slot
		want bool
	}{
		{"none", api.Store{}, api.Slot{Row: -1}, true}, {"no rows", api.Store{}, api.Slot{}, false}, {"none of some", mixed(), api.Slot{Row: -1}, true},
		{"first", mixed(), api.Slot{}, true}, {"last", mixed(), api.Slot{Row: 2}, true}, {"behind", mixed(), api.Slot{Row: 3}, false}, {"ahead", mixed(), api.Slot{Row: -2}, false},
		{"least row", mixed(), api.Slot{Row: math.MinInt}, false}, {"most row", mixed(), api.Slot{Row: math.MaxInt}, false},
		{"greatest base", mixed(), api.Slot{Base: 32767}, true}, {"least base", mixed(), api.Slot{Base: -32768, Row: 1}, true},
		{"base too great", mixed(), api.Slot{Base: 32768}, false}, {"base too small", mixed(), api.Slot{Base: -32769}, false}, {"base wraps", mixed(), api.Slot{Base: 1 << 16}, false},
		{"base without row", api.Store{}, api.Slot{Base: 32768, Row: -1}, false}, {"least int", mixed(), api.Slot{Base: math.MinInt, Row: -1}, false}, {"most int", mixed(), api.Slot{Base: math.MaxInt, Row: -1}, false},
		{"399", many, api.Slot{Row: 399}, true}, {"400", many, api.Slot{Row: 400}, false}, {"999", many, api.Slot{Row: 999}, false},
		{"399 of 399", api.Store{Rows: make([][]int, 399)}, api.Slot{Row: 399}, false},
		{"unformed store", wrongStores()["an empty row"], api.Slot{Row: 0}, true},
	} {
		if got := Fits(c.s, c.slot); got != c.want {
			t.Errorf("%s: %v", c.name, got)
		}
	}
}

// partOf is what chapter 9 says of a tent's part, by another library's fractions.
func partOf(t api.Tent, c int) *big.Rat {
	switch {
	case !wellFormedTent(t) || !coordinate(c):
		return new(big.Rat)
	case t.Peak == 0 || c == t.Peak:
		return big.NewRat(1, 1)
	case c <= t.Start || c >= t.End:
		return new(big.Rat)
	case c < t.Peak:
		return big.NewRat(int64(c-t.Start), int64(t.Peak-t.Start))
	}
	return big.NewRat(int64(t.End-c), int64(t.End-t.Peak))
}

// changeOf is what the chapter says of a row's change.
func changeOf(s api.Store, row int, coords []int) *big.Rat {
	sum := new(big.Rat)
	if row < 0 || row >= len(s.Rows) || len(s.Rows[row]) != len(s.Regions) {
		return sum
	}
	for i, region := range s.Regions {
		product := new(big.Rat).SetInt64(int64(s.Rows[row][i]))
		for j, x := range region {
			c := 0
			if j < len(coords) {
				c = coords[j]
			}
			product.Mul(product, partOf(x, c))
		}
		sum.Add(sum, product)
	}
	return sum
}

// roundedOf is what the chapter says of a slot's rounded value.
func roundedOf(s api.Store, x api.Slot, coords []int) (int, api.Errno) {
	if x.Base < -32768 || x.Base > 32767 || x.Row < -1 || x.Row >= min(len(s.Rows), 400) {
		return 0, api.ErrForm
	}
	v := changeOf(s, x.Row, coords)
	v.Add(v, big.NewRat(int64(2*x.Base+1), 2))
	// The quotient of Div goes down, as the rest isn't below 0.
	floor := new(big.Int).Div(v.Num(), v.Denom())
	if !floor.IsInt64() || floor.Int64() < -32768 || floor.Int64() > 32767 {
		return 0, api.ErrRange
	}
	return int(floor.Int64()), api.OK
}

// expectSlot fails unless Change, Value and Rounded answer of x what the chapter says.
func expectSlot(t *testing.T, s api.Store, x api.Slot, coords []int) {
	t.Helper()
	change := changeOf(s, x.Row, coords)
	if got := Change(s, x.Row, coords); !ratio.Formed(got) || ratio.Text(got) != change.RatString() {
		t.Errorf("%v at %v: change %s, want %s", x, coords, ratio.Text(got), change.RatString())
	}
	value := new(big.Rat).Add(change, new(big.Rat).SetInt64(int64(x.Base)))
	if got := Value(s, x, coords); !ratio.Formed(got) || ratio.Text(got) != value.RatString() {
		t.Errorf("%v at %v: value %s, want %s", x, coords, ratio.Text(got), value.RatString())
	}
	want, wrong := roundedOf(s, x, coords)
	if n, e := Rounded(s, x, coords); n != want || e != wrong {
		t.Errorf("%v at %v: %d, error %d, want %d, error %d", x, coords, n, e, want, wrong)
	}
}

func TestValuesOfTheChapter(t *testing.T) {
	s := mixed()
	for _, c := range []struct {
		s      api.Store
		slot   api.Slot
		coords []int
		want   string
		n      int
		e      api.Errno
	}{
		{chapter(), api.Slot{Base: 5}, []int{8192}, "10", 10, 0}, {chapter(), api.Slot{Base: 5}, []int{4096}, "15/2", 8, 0}, {chapter(), api.Slot{Base: 5}, []int{16384}, "15", 15, 0},
		{chapter(), api.Slot{Base: 5}, nil, "5", 5, 0}, {chapter(), api.Slot{Base: 5}, []int{-16384}, "5", 5, 0}, {chapter(), api.Slot{Base: 5, Row: -1}, []int{8192}, "5", 5, 0},
		{chapter(), api.Slot{Base: -8}, []int{4096}, "-11/2", -5, 0}, {chapter(), api.Slot{Base: -10}, []int{12288}, "-5/2", -2, 0}, {chapter(), api.Slot{Base: 5}, []int{16385}, "5", 5, 0},
		{s, api.Slot{}, nil, "7", 7, 0}, {s, api.Slot{Base: 1}, []int{16384, 8192}, "108", 108, 0}, {s, api.Slot{}, []int{8192, 12288}, "32", 32, 0}, {s, api.Slot{}, []int{-4096}, "4", 4, 0},
		{s, api.Slot{Base: 9, Row: 2}, []int{3, 4}, "9", 9, 0}, {s, api.Slot{Base: 1, Row: 1}, []int{-8192, 0}, "32768", 0, api.ErrRange}, {s, api.Slot{Row: 1}, []int{-8192, 0}, "32767", 32767, 0},
		{s, api.Slot{Base: -1, Row: 1}, []int{16384, 8192}, "-32769", 0, api.ErrRange}, {s, api.Slot{Row: 1}, []int{16384, 8192}, "-32768", -32768, 0},
		{s, api.Slot{Base: 5, Row: 3}, []int{16384, 8192}, "5", 0, api.ErrForm}, {s, api.Slot{Base: 5, Row: -2}, []int{16384, 8192}, "5", 0, api.ErrForm},
		{s, api.Slot{Base: 32768, Row: -1}, nil, "32768", 0, api.ErrForm}, {s, api.Slot{Base: 32768, Row: 9}, nil, "32768", 0, api.ErrForm},
		{api.Store{}, api.Slot{Base: 7, Row: -1}, nil, "7", 7, 0}, {api.Store{}, api.Slot{Base: 7}, nil, "7", 0, api.ErrForm},
		{api.Store{Rows: [][]int{{}}}, api.Slot{Base: 7}, []int{5}, "7", 7, 0}, {api.Store{Regions: [][]api.Tent{{}}, Rows: [][]int{{4}}}, api.Slot{Base: 7}, nil, "11", 11, 0},
	} {
		if got := ratio.Text(Value(c.s, c.slot, c.coords)); got != c.want {
			t.Errorf("%v at %v: %s, want %s", c.slot, c.coords, got, c.want)
		}
		if n, e := Rounded(c.s, c.slot, c.coords); n != c.n || e != c.e {
			t.Errorf("%v at %v: %d, error %d", c.slot, c.coords, n, e)
		}
		expectSlot(t, c.s, c.slot, c.coords)
	}
}

// TestRoundedOnce: what would go up or down if a part, or a product, were rounded on the way.
func TestRoundedOnce(t *testing.T) {
	thirds := api.Tent{Peak: 3, End: 16384}
	s := api.Store{Regions: [][]api.Tent{{thirds}, {thirds}, {thirds}}, Rows: [][]int{{1, 1, 1}, {1, 0, 0}, {-1, -1, -1}, {20000, 20000, -32768}, {-32768, -32768, 32767}}}
	for _, c := range []struct {
		x    api.Slot
		at   int
		want int
		e    api.Errno
	}{
		{api.Slot{}, 1, 1, 0}, {api.Slot{}, 2, 2, 0}, {api.Slot{Row: 1}, 1, 0, 0}, {api.Slot{Row: 1}, 2, 1, 0}, {api.Slot{Row: 2}, 1, -1, 0},
		// The sum of the first two leaves a field's range, the whole doesn't.
		{api.Slot{Row: 3}, 3, 7232, 0}, {api.Slot{Base: 25535, Row: 3}, 3, 32767, 0}, {api.Slot{Base: 25536, Row: 3}, 3, 0, api.ErrRange},
		{api.Slot{Row: 4}, 3, 0, api.ErrRange}, {api.Slot{Base: 1, Row: 4}, 3, -32768, 0},
	} {
		if n, e := Rounded(s, c.x, []int{c.at}); n != c.want || e != c.e {
			t.Errorf("%v at %d: %d, error %d", c.x, c.at, n, e)
		}
		expectSlot(t, s, c.x, []int{c.at})
	}
	half := api.Store{Regions: [][]api.Tent{{hill()}}, Rows: [][]int{{1}, {-1}}}
	for _, c := range []struct {
		x    api.Slot
		want int
		e    api.Errno
	}{
		{api.Slot{Base: 5}, 6, 0}, {api.Slot{Base: 5, Row: 1}, 5, 0}, {api.Slot{Base: -5}, -4, 0}, {api.Slot{Base: -5, Row: 1}, -5, 0}, {api.Slot{Row: 1}, 0, 0},
		{api.Slot{Base: 32767}, 0, api.ErrRange}, {api.Slot{Base: 32767, Row: 1}, 32767, 0}, {api.Slot{Base: -32768, Row: 1}, -32768, 0},
	} {
		if n, e := Rounded(half, c.x, []int{4096}); n != c.want || e != c.e {
			t.Errorf("%v: %d, error %d", c.x, n, e)
		}
	}
}

func TestValuesOfWhatIsWrong(t *testing.T) {
	rows := []int{math.MinInt, -32768, -2, -1, 0, 1, 2, 3, 40, 399, 400, 401, 1 << 16, math.MaxInt}
	bases := []int{math.MinInt, -1 << 40, -32769, -32768, 0, 32767, 32768, 1 << 40, math.MaxInt}
	places := [][]int{nil, {0, 0}, {16384}, {16384, 8192}, {-8192, 1, 5, 99999}, {16385, 8192}, {8192, math.MinInt}, {math.MaxInt}, {1, 1}}
	for _, s := range wrongStores() {
		for i, row := range rows {
			// Not every base with every place: each with some.
			for j, coords := range places {
				expectSlot(t, s, api.Slot{Base: bases[(i+j)%len(bases)], Row: row}, coords)
			}
		}
	}
}

func TestValuesOfOddRows(t *testing.T) {
	s := mixed()
	s.Rows = append(s.Rows, []int{1, 2}, []int{1, 2, 3, 4}, nil)
	for row := 3; row <= 5; row++ {
		if got := ratio.Text(Change(s, row, []int{16384, 8192})); got != "0" {
			t.Errorf("%d: %s", row, got)
		}
		if n, e := Rounded(s, api.Slot{Base: -7, Row: row}, []int{16384, 8192}); n != -7 || e != api.OK {
			t.Errorf("%d: %d, error %d", row, n, e)
		}
	}
	// A row behind number 399 is a row still, though no slot fits it.
	many := api.Store{Regions: chapter().Regions, Rows: slices.Repeat([][]int{{3}}, 402)}
	if got := ratio.Text(Value(many, api.Slot{Base: 1, Row: 401}, []int{16384})); got != "4" {
		t.Error(got)
	}
	if n, e := Rounded(many, api.Slot{Base: 1, Row: 401}, []int{16384}); n != 0 || e != api.ErrForm {
		t.Error(n, e)
	}
	great := api.Store{Regions: [][]api.Tent{{rising()}, {rising()}}, Rows: [][]int{{math.MaxInt, math.MaxInt}, {math.MinInt, -1}}}
	for row := range great.Rows {
		for _, at := range []int{16384, 3, 0} {
			expectSlot(t, great, api.Slot{Base: math.MaxInt, Row: row}, []int{at})
			expectSlot(t, great, api.Slot{Base: 5, Row: row}, []int{at})
		}
	}
}

// drawnTent is a formed tent of any kind.
func drawnTent(r *rand.Rand) api.Tent {
	known := []api.Tent{{}, rising(), hill(), below(), {Start: -16384, Peak: -16384}, {Peak: 1, End: 2}}
	if r.Intn(3) == 0 {
		return known[r.Intn(len(known))]
	}
	start := r.Intn(16382)
	peak := start + 1 + r.Intn(16383-start)
	end := peak + 1 + r.Intn(16384-peak)
	if r.Intn(2) == 0 {
		return api.Tent{Start: -end, Peak: -peak, End: -start}
	}
	return api.Tent{Start: start, Peak: peak, End: end}
}

// drawnField is often near an edge.
func drawnField(r *rand.Rand) int {
	switch r.Intn(4) {
	case 0:
		return r.Intn(7) - 3
	case 1:
		return []int{-32768, 32767}[r.Intn(2)]
	}
	return r.Intn(1<<16) - 1<<15
}

func drawnRow(r *rand.Rand, n int) []int {
	row := make([]int, n)
	for i := range row {
		row[i] = drawnField(r)
	}
	return row
}

// drawn is a formed store.
func drawn(r *rand.Rand) (api.Store, int) {
	axes := r.Intn(5)
	var s api.Store
	for range r.Intn(7) {
		region := make([]api.Tent, axes)
		for i := range region {
			region[i] = drawnTent(r)
		}
		s.Regions = append(s.Regions, region)
	}
	for range r.Intn(5) {
		s.Rows = append(s.Rows, drawnRow(r, len(s.Regions)))
	}
	return s, axes
}

// drawnPlace is coordinates at which a region of s often changes something.
func drawnPlace(r *rand.Rand, s api.Store, axes int) []int {
	coords := make([]int, axes)
	for i := range coords {
		coords[i] = r.Intn(2*16384+1) - 16384
		if len(s.Regions) > 0 && r.Intn(4) > 0 {
			x := s.Regions[r.Intn(len(s.Regions))][i]
			coords[i] = x.Start + r.Intn(x.End-x.Start+1)
		}
	}
	switch r.Intn(8) {
	case 0:
		return coords[:r.Intn(axes+1)]
	case 1:
		return append(coords, r.Intn(99999)-50000)
	}
	return coords
}

func TestDrawnStores(t *testing.T) {
	r := rand.New(rand.NewSource(1))
	some := 0
	for range 5000 {
		s, axes := drawn(r)
		if !Formed(s, axes) || !wellFormed(s, axes) {
			t.Fatalf("%v isn't formed for %d axes", s, axes)
		}
		for range 3 {
			x := api.Slot{Base: drawnField(r), Row: r.Intn(len(s.Rows)+3) - 2}
			coords := drawnPlace(r, s, axes)
			if changeOf(s, x.Row, coords).Sign() != 0 {
				some++
			}
			expectSlot(t, s, x, coords)
		}
	}
	if some < 2000 {
		t.Error("too few rows change:", some)
	}
}

func TestManyRegions(t *testing.T) {
	r := rand.New(rand.NewSource(2))
	for _, regions := range []int{1, 2, 3, 5, 39, 40, 100} {
		s := api.Store{Rows: [][]int{drawnRow(r, regions), drawnRow(r, regions)}}
		for range regions {
			region := make([]api.Tent, 4)
			for i := range region {
				region[i] = api.Tent{Start: r.Intn(3000), Peak: 5000 + r.Intn(3000), End: 9000 + r.Intn(7000)}
			}
			s.Regions = append(s.Regions, region)
		}
		for row := range s.Rows {
			expectSlot(t, s, api.Slot{Base: drawnField(r), Row: row}, []int{3501, 4003, 7001, 8999})
		}
	}
}

// TestBaseAtZero: where no region holds everywhere, at the coordinates 0 each slot's value is its Base.
func TestBaseAtZero(t *testing.T) {
	r := rand.New(rand.NewSource(3))
	asked := 0
	for range 3000 {
		s, axes := drawn(r)
		everywhere := func(region []api.Tent) bool {
			return !slices.ContainsFunc(region, func(x api.Tent) bool { return x.Peak != 0 })
		}
		if slices.ContainsFunc(s.Regions, everywhere) {
			continue
		}
		for row := api.None; row < len(s.Rows); row++ {
			asked++
			base := drawnField(r)
			for _, zeros := range [][]int{nil, make([]int, axes)} {
				if got := ratio.Text(Value(s, api.Slot{Base: base, Row: row}, zeros)); got != strconv.Itoa(base) {
					t.Fatalf("%v, row %d: %s, not %d", s, row, got, base)
				}
			}
		}
	}
	if asked < 3000 {
		t.Error("too few stores:", asked)
	}
	if got := ratio.Text(Value(mixed(), api.Slot{Base: 5}, []int{0, 0})); got != "12" {
		t.Error("a region that holds everywhere changes 0 too:", got)
	}
}

// TestChangesAddUp: a row that is the sum of two changes by the sum.
func TestChangesAddUp(t *testing.T) {
	r := rand.New(rand.NewSource(4))
	for range 3000 {
		s, axes := drawn(r)
		one, two := drawnRow(r, len(s.Regions)), drawnRow(r, len(s.Regions))
		both := slices.Clone(one)
		for i, n := range two {
			both[i] += n
		}
		s.Rows = [][]int{one, two, both}
		coords := drawnPlace(r, s, axes)
		sum := ratio.Add(Change(s, 0, coords), Change(s, 1, coords))
		if got := Change(s, 2, coords); ratio.Cmp(got, sum) != 0 {
			t.Fatalf("%v at %v: %s, not %s", s, coords, ratio.Text(got), ratio.Text(sum))
		}
	}
}

// table writes a store's bytes, formed or not, by another library.
func table(s api.Store, axes int) []byte {
	b := binary.BigEndian.AppendUint16(nil, uint16(axes))
	b = binary.BigEndian.AppendUint16(b, uint16(len(s.Regions)))
	for _, region := range s.Regions {
		for _, x := range region {
			for _, n := range []int{x.Start, x.Peak, x.End} {
				b = binary.BigEndian.AppendUint16(b, uint16(n))
			}
		}
	}
	b = binary.BigEndian.AppendUint16(b, uint16(len(s.Rows)))
	for _, row := range s.Rows {
		for _, n := range row {
			b = binary.BigEndian.AppendUint16(b, uint16(n))
		}
	}
	return b
}

// isTable reads field by field from the front, and says whether b is just a formed store's bytes.
func isTable(b []byte) (api.Store, int, bool) {
	lacks := false
	next := func() int {
		if len(b) < 2 {
			lacks = true
			return 0
		}
		n := int(b[0])<<8 | int(b[1])
		b = b[2:]
		return n
	}
	signed := func() int { return int(int16(next())) }
	var s api.Store
	axes, regions := next(), next()
	if axes > 4 || regions > 40 {
		return api.Store{}, 0, false
	}
	for i := 0; i < regions && !lacks; i++ {
		region := []api.Tent{}
		for range axes {
			region = append(region, api.Tent{Start: signed(), Peak: signed(), End: signed()})
		}
		s.Regions = append(s.Regions, region)
	}
	rows := next()
	for i := 0; i < min(rows, 401) && !lacks; i++ {
		row := []int{}
		for i := 0; i < regions && !lacks; i++ {
			row = append(row, signed())
		}
		s.Rows = append(s.Rows, row)
	}
	if lacks || len(b) > 0 || !wellFormed(s, axes) {
		return api.Store{}, 0, false
	}
	return s, axes, true
}

func TestWriteOfBytes(t *testing.T) {
	s := api.Store{Regions: [][]api.Tent{{{Start: 258, Peak: 772, End: 1286}, {}}, {{Start: -258, Peak: -2, End: -1}, rising()}}, Rows: [][]int{{-1, 258}, {32767, -32768}, {0, 5}}}
	b, e := Write(s, 2)
	want := []byte{
		0, 2, 0, 2,
		1, 2, 3, 4, 5, 6, 0, 0, 0, 0, 0, 0,
		254, 254, 255, 254, 255, 255, 0, 0, 64, 0, 64, 0,
		0, 3, 255, 255, 1, 2, 127, 255, 128, 0, 0, 0, 0, 5,
	}
	if e != api.OK || !bytes.Equal(b, want) {
		t.Error(b, e)
	}
	for axes := range 5 {
		if b, e := Write(api.Store{}, axes); e != api.OK || !bytes.Equal(b, []byte{0, byte(axes), 0, 0, 0, 0}) {
			t.Error(axes, b, e)
		}
		if b, e := Write(api.Store{Rows: make([][]int, 400)}, axes); e != api.OK || !bytes.Equal(b, []byte{0, byte(axes), 0, 0, 1, 144}) {
			t.Error(axes, b, e)
		}
	}
	if b, e := Write(api.Store{Regions: [][]api.Tent{{}, nil}, Rows: [][]int{{1, 2}}}, 0); e != api.OK || !bytes.Equal(b, []byte{0, 0, 0, 2, 0, 1, 0, 1, 0, 2}) {
		t.Error(b, e)
	}
}

func TestWriteOfWhatIsWrong(t *testing.T) {
	for name, s := range wrongStores() {
		if b, e := Write(s, 2); e != api.ErrForm || len(b) != 0 {
			t.Errorf("%s: %x, error %d", name, b, e)
		}
	}
	for _, axes := range []int{math.MinInt, -1, 0, 1, 3, 4, 5, math.MaxInt} {
		if b, e := Write(mixed(), axes); e != api.ErrForm || len(b) != 0 {
			t.Errorf("%d axes: %x, error %d", axes, b, e)
		}
	}
	for _, axes := range []int{math.MinInt, -1, 5, 1 << 16, math.MaxInt} {
		if b, e := Write(api.Store{}, axes); e != api.ErrForm || len(b) != 0 {
			t.Errorf("%d axes: %x, error %d", axes, b, e)
		}
	}
}

// expectRead fails unless Read answers of b what the chapter says.
func expectRead(t *testing.T, name string, b []byte) {
	t.Helper()
	want, axes, is := isTable(b)
	s, n, e := Read(b)
	switch {
	case is && (e != api.OK || n != axes || !alike(s, want)):
		t.Errorf("%s: a store's %d bytes: %v for %d, error %d", name, len(b), s, n, e)
	case !is && (e != api.ErrBad || n != 0 || len(s.Regions)+len(s.Rows) != 0):
		t.Errorf("%s: no store's %d bytes: %v for %d, error %d", name, len(b), s, n, e)
	}
}

// sized is stores of all sizes, and their axes.
func sized() []struct {
	s    api.Store
	axes int
} {
	type sizedStore = struct {
		s    api.Store
		axes int
	}
	return []sizedStore{
		{api.Store{}, 0}, {api.Store{}, 4}, {chapter(), 1}, {mixed(), 2}, {regular(3, 2, 0), 3}, {regular(0, 3, 2), 0}, {regular(1, 0, 5), 1}, {regular(4, 2, 3), 4}, {regular(2, 1, 1), 2},
	}
}

func TestThereAndBack(t *testing.T) {
	check := func(s api.Store, axes int) {
		t.Helper()
		b, e := Write(s, axes)
		if e != api.OK || !bytes.Equal(b, table(s, axes)) {
			t.Fatalf("%v for %d: %x, error %d", s, axes, b, e)
		}
		u, n, e := Read(b)
		if e != api.OK || n != axes || !alike(u, s) {
			t.Fatalf("%v for %d: %v for %d, error %d", s, axes, u, n, e)
		}
		if again, e := Write(u, n); e != api.OK || !bytes.Equal(again, b) {
			t.Fatalf("%v for %d: %x, error %d", s, axes, again, e)
		}
	}
	for _, x := range sized() {
		check(x.s, x.axes)
	}
	for axes := range 5 {
		for _, size := range [][2]int{{0, 400}, {40, 0}, {40, 400}, {1, 400}, {40, 1}} {
			check(regular(axes, size[0], size[1]), axes)
		}
	}
	r := rand.New(rand.NewSource(5))
	for range 2000 {
		check(drawn(r))
	}
}

func TestReadOfTurnedBytes(t *testing.T) {
	for i, x := range sized() {
		b := table(x.s, x.axes)
		for at := range b {
			for turn := range 256 {
				c := bytes.Clone(b)
				c[at] ^= byte(turn)
				expectRead(t, strconv.Itoa(i), c)
			}
		}
	}
}

func TestReadOfOtherLengths(t *testing.T) {
	for i, x := range sized() {
		b, name := table(x.s, x.axes), strconv.Itoa(i)
		for j := range b {
			expectRead(t, name, b[:j])
			expectRead(t, name, b[j:])
		}
		for more := range 40 {
			expectRead(t, name, append(bytes.Clone(b), make([]byte, more)...))
		}
	}
	for _, b := range [][]byte{nil, {}, {0}, {0, 0}, {0, 0, 0}, {0, 0, 0, 0}, {0, 0, 0, 0, 0}} {
		if s, n, e := Read(b); e != api.ErrBad || n != 0 || len(s.Regions)+len(s.Rows) != 0 {
			t.Errorf("%d bytes: error %d", len(b), e)
		}
	}
	if _, n, e := Read(make([]byte, 6)); e != api.OK || n != 0 {
		t.Error("the least store:", n, e)
	}
}

func TestReadOfWhatIsWrong(t *testing.T) {
	for name, s := range wrongStores() {
		b := table(s, 2)
		if _, _, is := isTable(b); !is {
			expectRead(t, name, b)
		}
	}
	expectRead(t, "5 axes", table(regular(5, 2, 2), 5))
	expectRead(t, "5 axes, empty", table(api.Store{}, 5))
	expectRead(t, "65535 axes", table(api.Store{}, 65535))
	expectRead(t, "41 regions", table(regular(1, 41, 2), 1))
	expectRead(t, "41 regions of no tents", table(regular(0, 41, 0), 0))
	expectRead(t, "65535 regions of no tents", table(api.Store{Regions: make([][]api.Tent, 65535)}, 0))
	expectRead(t, "401 rows", table(regular(1, 2, 401), 1))
	expectRead(t, "401 empty rows", table(regular(1, 0, 401), 1))
	expectRead(t, "65535 empty rows", table(regular(1, 0, 65535), 1))
	expectRead(t, "40 by 400", table(regular(4, 40, 400), 4))
	expectRead(t, "endless", bytes.Repeat([]byte{255}, 1<<20))
	expectRead(t, "zeros", make([]byte, 1<<20))
	for name, b := range map[string][]byte{
		"a wrong tent":     {0, 1, 0, 1, 0, 0, 0, 0, 0, 5, 0, 0},
		"beyond 1":         {0, 1, 0, 1, 0, 0, 64, 1, 64, 1, 0, 0},
		"about 0":          {0, 1, 0, 1, 255, 255, 0, 0, 0, 1, 0, 0},
		"rows lack":        {0, 1, 0, 1, 0, 0, 0, 1, 0, 2, 0, 1},
		"half a number":    {0, 1, 0, 1, 0, 0, 0, 1, 0, 2, 0, 1, 0},
		"one byte too far": {0, 1, 0, 1, 0, 0, 0, 1, 0, 2, 0, 1, 0, 7, 0},
	} {
		if s, n, e := Read(b); e != api.ErrBad || n != 0 || len(s.Regions)+len(s.Rows) != 0 {
			t.Errorf("%s: %v, %d, error %d", name, s, n, e)
		}
	}
}

func TestReadOfDrawnBytes(t *testing.T) {
	r := rand.New(rand.NewSource(6))
	for range 20000 {
		b := table(drawn(r))
		for range r.Intn(4) {
			b[r.Intn(len(b))] = byte(r.Intn(256))
		}
		expectRead(t, "drawn", b)
	}
}

// roomy answers a copy of l that has more room, filled with x.
func roomy[T any](l []T, x T) []T {
	return append(slices.Clone(l), x, x, x)[:len(l)]
}

func TestArgumentsAreLeft(t *testing.T) {
	tent, number := api.Tent{Start: 77, Peak: 78, End: 79}, 77
	roomyArguments := func() (api.Store, []int, []byte) {
		s := mixed()
		for i, region := range s.Regions {
			s.Regions[i] = roomy(region, tent)
		}
		for i, row := range s.Rows {
			s.Rows[i] = roomy(row, number)
		}
		s.Regions, s.Rows = roomy(s.Regions, []api.Tent{tent}), roomy(s.Rows, []int{number})
		return s, roomy([]int{8192, 4096}, number), roomy(table(mixed(), 2), 77)
	}
	s, coords, b := roomyArguments()
	Formed(s, 2)
	Fits(s, api.Slot{Row: 1})
	for row := range 4 {
		Change(s, row, coords)
		Value(s, api.Slot{Base: 1, Row: row}, coords)
		Rounded(s, api.Slot{Base: 1, Row: row}, coords)
	}
	Write(s, 2)
	Write(s, 3)
	Read(b)
	Read(b[:9])
	was, placed, bytesWere := roomyArguments()
	full := func(s api.Store) api.Store {
		u := api.Store{Regions: slices.Clone(s.Regions[:6]), Rows: slices.Clone(s.Rows[:6])}
		for i := range 3 {
			u.Regions[i], u.Rows[i] = u.Regions[i][:5], u.Rows[i][:6]
		}
		return u
	}
	if !alike(full(s), full(was)) {
		t.Error(full(s))
	}
	if !slices.Equal(coords[:5], placed[:5]) || !bytes.Equal(b[:len(b)+3], bytesWere[:len(b)+3]) {
		t.Error(coords[:5], b[:len(b)+3])
	}
}

// scribble fills a list, and the room behind it, with x.
func scribble[T any](l []T, x T) {
	for i := range l[:cap(l)] {
		l[:cap(l)][i] = x
	}
}

func TestAnswersAreNew(t *testing.T) {
	s := mixed()
	b, _ := Write(s, 2)
	u, _, _ := Read(b)
	scribble(b, 1)
	if !alike(u, s) {
		t.Error("a store hangs on the bytes that were read")
	}
	for at := range u.Regions {
		u, _, _ := Read(table(s, 2))
		want := copied(s)
		scribble(u.Regions[at], api.Tent{Start: 99})
		scribble(want.Regions[at], api.Tent{Start: 99})
		if !alike(u, want) {
			t.Error("regions share memory")
		}
	}
	for at := range u.Rows {
		u, _, _ := Read(table(s, 2))
		want := copied(s)
		scribble(u.Rows[at], 99)
		scribble(want.Rows[at], 99)
		if !alike(u, want) {
			t.Error("rows share memory")
		}
	}
	if again, e := Write(s, 2); e != api.OK || !bytes.Equal(again, table(mixed(), 2)) {
		t.Error("bytes hang on an earlier answer")
	}
}

func TestFractionsAreNew(t *testing.T) {
	s := mixed()
	for i, answer := range []func() ratio.Ratio{
		func() ratio.Ratio { return Change(s, 0, []int{4096, 8192}) },
		func() ratio.Ratio { return Change(s, 2, []int{4096, 8192}) },
		func() ratio.Ratio { return Change(s, api.None, nil) },
		func() ratio.Ratio { return Change(s, 9, nil) },
		func() ratio.Ratio { return Change(chapter(), 0, []int{4096}) },
		func() ratio.Ratio { return Value(s, api.Slot{Base: 5}, []int{4096, 8192}) },
		func() ratio.Ratio { return Value(s, api.Slot{Base: 5, Row: api.None}, nil) },
		func() ratio.Ratio { return Value(s, api.Slot{Base: 5, Row: 9}, nil) },
	} {
		want := ratio.Text(answer())
		y := answer()
		for _, limbs := range []nat.Nat{y.Num, y.Den} {
			scribble(limbs, 12345)
		}
		if got := ratio.Text(answer()); got != want {
			t.Errorf("%d: %s, then %s", i, want, got)
		}
	}
}

package feats

import (
	"math"
	"math/rand"
	"slices"
	"strings"
	"testing"

	"foundry/api"
)

func feature(tag string, looks ...int) api.Feature {
	return api.Feature{Tag: tag, Looks: looks}
}

func cond(axis, least, most int) api.Cond {
	return api.Cond{Axis: axis, Least: least, Most: most}
}

// swap is one without Conds.
func swap(feature int, looks ...int) api.Swap {
	return api.Swap{Feature: feature, Looks: looks}
}

// where is the swap x, where all these hold.
func where(x api.Swap, conds ...api.Cond) api.Swap {
	x.Conds = conds
	return x
}

// family is features that are formed for 6 lookups, or more; two have one tag.
func family() []api.Feature {
	return []api.Feature{feature("liga", 2, 0), feature("kern", 5, 1, 2), feature("    "), feature("liga", 4, 4), feature("~~~~", 0)}
}

// corners is swaps that are formed for family, 6 lookups and 2 axes, or more.
func corners() []api.Swap {
	return []api.Swap{
		where(swap(0, 3), cond(0, 8192, 16384)),
		where(swap(0), cond(0, 4096, 16384), cond(1, -16384, -1)),
		where(swap(3, 5, 0), cond(1, 0, 0), cond(0, -16384, 16384), cond(1, -5, 5)),
		swap(4, 1, 1),
		where(swap(4, 2), cond(0, 0, 0)),
	}
}

// withFeature is family, whose fourth feature is x.
func withFeature(x api.Feature) []api.Feature {
	l := family()
	l[3] = x
	return l
}

// withSwap is corners, whose fourth swap is x.
func withSwap(x api.Swap) []api.Swap {
	l := corners()
	l[3] = x
	return l
}

// sameFeatures takes lists of none, nil or empty, as alike.
func sameFeatures(l, m []api.Feature) bool {
	return slices.EqualFunc(l, m, func(x, y api.Feature) bool { return x.Tag == y.Tag && slices.Equal(x.Looks, y.Looks) })
}

// sameSwaps takes lists of none, nil or empty, as alike.
func sameSwaps(l, m []api.Swap) bool {
	return slices.EqualFunc(l, m, func(x, y api.Swap) bool {
		return x.Feature == y.Feature && slices.Equal(x.Conds, y.Conds) && slices.Equal(x.Looks, y.Looks)
	})
}

// edges are numbers about those at which something changes.
func edges() []int {
	return []int{
		math.MinInt, math.MinInt + 1, -1 << 32, -65536, -32769, -32768, -16385, -16384, -16383, -2, -1, 0, 1, 2, 3, 4, 5, 6, 7,
		16383, 16384, 16385, 32767, 32768, 65535, 65536, 65537, 1 << 32, 1<<32 + 1, math.MaxInt - 1, math.MaxInt,
	}
}

// formed is what the chapter says, one question after the other.
func formed(l []api.Feature, swaps []api.Swap, looks, axes int) bool {
	allLooks := func(l []int) bool {
		return len(l) <= 10 && !slices.ContainsFunc(l, func(n int) bool { return n < 0 || n >= looks })
	}
	for _, x := range l {
		if len(x.Tag) != 4 || strings.ContainsFunc(x.Tag, func(r rune) bool { return r < 32 || r > 126 }) || !allLooks(x.Looks) {
			return false
		}
	}
	for _, x := range swaps {
		for _, c := range x.Conds {
			if c.Axis < 0 || c.Axis >= axes || c.Least < -16384 || c.Least > c.Most || c.Most > 16384 {
				return false
			}
		}
		if len(x.Conds) > 4 || x.Feature < 0 || x.Feature >= len(l) || !allLooks(x.Looks) {
			return false
		}
	}
	return len(l) <= 10 && len(swaps) <= 6
}

// byWords is the lookups of the feature n at the coordinates, as the chapter says.
func byWords(l []api.Feature, swaps []api.Swap, n int, coords []int) []int {
	at := func(axis int) int {
		if axis < len(coords) {
			return coords[axis]
		}
		return 0
	}
	fails := func(c api.Cond) bool { return c.Axis < 0 || at(c.Axis) < c.Least || at(c.Axis) > c.Most }
	i := slices.IndexFunc(swaps, func(x api.Swap) bool { return x.Feature == n && !slices.ContainsFunc(x.Conds, fails) })
	switch {
	case n < 0 || n >= len(l):
		return nil
	case i < 0:
		return l[n].Looks
	}
	return swaps[i].Looks
}

// chosenByWords is what the chapter says of Chosen, lookup by lookup, rising, of those from least to most.
func chosenByWords(l []api.Feature, swaps []api.Swap, coords []int, on []string, least, most int) []int {
	var out []int
	for look := least; look <= most; look++ {
		for n, x := range l {
			if slices.Contains(on, x.Tag) && slices.Contains(byWords(l, swaps, n, coords), look) {
				out = append(out, look)
				break
			}
		}
	}
	return out
}

// TestExample is the chapter's.
func TestExample(t *testing.T) {
	l := []api.Feature{feature("liga", 0, 2)}
	swaps := []api.Swap{where(swap(0, 3), cond(0, 8192, 16384))}
	for at, want := range map[int][]int{0: {0, 2}, 12288: {3}, 8191: {0, 2}, 8192: {3}, 16384: {3}, -16384: {0, 2}} {
		if x := Chosen(l, swaps, []int{at}, []string{"liga"}); !slices.Equal(x, want) {
			t.Error(at, x, want)
		}
	}
}

// expectForm asks Formed, and Write and Read, which hang on it.
func expectForm(t *testing.T, name string, l []api.Feature, swaps []api.Swap, looks, axes int, want bool) {
	t.Helper()
	if Formed(l, swaps, looks, axes) != want || formed(l, swaps, looks, axes) != want {
		t.Errorf("%s, %d lookups, %d axes: Formed, or the test itself, says %v", name, looks, axes, !want)
	}
	expectTable(t, name, l, swaps, looks, axes, want && looks <= 65536 && axes <= 65536)
}

// TestFormed is P22.1.
func TestFormed(t *testing.T) {
	for _, n := range edges() {
		expectForm(t, "family", family(), corners(), n, 2, n >= 6)
		expectForm(t, "family", family(), corners(), 6, n, n >= 2)
		expectForm(t, "nothing", nil, nil, n, n, true)
		expectForm(t, "features without lookups", []api.Feature{feature("liga")}, nil, n, n, true)
		expectForm(t, "a swap without lookups and Conds", []api.Feature{feature("liga")}, []api.Swap{swap(0)}, n, n, true)
		expectForm(t, "a feature's lookup", withFeature(feature("liga", n)), corners(), 6, 2, n >= 0 && n < 6)
		expectForm(t, "a feature's last lookup", withFeature(feature("liga", 0, 1, n)), corners(), 6, 2, n >= 0 && n < 6)
		expectForm(t, "a swap's lookup", family(), withSwap(swap(1, n)), 6, 2, n >= 0 && n < 6)
		expectForm(t, "a swap's last lookup", family(), withSwap(swap(1, 5, 0, n)), 6, 2, n >= 0 && n < 6)
		expectForm(t, "a swap's feature", family(), withSwap(swap(n, 1)), 6, 2, n >= 0 && n < 5)
		expectForm(t, "axis", family(), withSwap(where(swap(1), cond(n, 0, 0))), 6, 2, n == 0 || n == 1)
		expectForm(t, "last axis", family(), withSwap(where(swap(1), cond(0, 0, 0), cond(n, 0, 0))), 6, 2, n == 0 || n == 1)
		expectForm(t, "least", family(), withSwap(where(swap(1), cond(0, n, 16384))), 6, 2, n >= -16384 && n <= 16384)
		expectForm(t, "most", family(), withSwap(where(swap(1), cond(0, -16384, n))), 6, 2, n >= -16384 && n <= 16384)
		expectForm(t, "least and most", family(), withSwap(where(swap(1), cond(0, n, n))), 6, 2, n >= -16384 && n <= 16384)
		expectForm(t, "least to 3", family(), withSwap(where(swap(1), cond(0, n, 3))), 6, 2, n >= -16384 && n <= 3)
	}
	expectForm(t, "empty", []api.Feature{}, []api.Swap{}, 0, 0, true)
	expectForm(t, "a swap of no feature", nil, []api.Swap{swap(0)}, 1, 1, false)
}

// TestFormedTags: a tag is good, and may be another feature's too.
func TestFormedTags(t *testing.T) {
	for tag, want := range map[string]bool{
		"liga": true, "kern": true, "    ": true, "~~~~": true, " !~a": true, "": false, "lig": false, "ligat": false, "lig\x1f": false, "\x7figa": false,
		"l\x00ga": false, "liä": false, "äöü": false, "lig\xff": false, "\xff\xfe\xfd\xfc": false, strings.Repeat("a", 1<<20): false,
	} {
		expectForm(t, tag[:min(len(tag), 9)], withFeature(feature(tag, 1)), corners(), 6, 2, want)
	}
	expectForm(t, "all alike", slices.Repeat([]api.Feature{feature("liga", 1)}, 10), nil, 2, 0, true)
}

// TestFormedLengths: at most so many of each.
func TestFormedLengths(t *testing.T) {
	for n := range 30 {
		ones := slices.Repeat([]int{1}, n)
		conds := slices.Repeat([]api.Cond{cond(0, 0, 0)}, n)
		expectForm(t, "features", slices.Repeat([]api.Feature{feature("liga", 1)}, n), nil, 6, 2, n <= 10)
		expectForm(t, "swaps", family(), slices.Repeat([]api.Swap{swap(1, 1)}, n), 6, 2, n <= 6)
		expectForm(t, "lookups", withFeature(feature("liga", ones...)), corners(), 6, 2, n <= 10)
		expectForm(t, "a swap's lookups", family(), withSwap(swap(1, ones...)), 6, 2, n <= 10)
		expectForm(t, "conds", family(), withSwap(where(swap(1, 1), conds...)), 6, 2, n <= 4)
		expectForm(t, "feature", slices.Repeat([]api.Feature{feature("liga", 1)}, n), []api.Swap{swap(4)}, 6, 2, n > 4 && n <= 10)
	}
}

func TestHolds(t *testing.T) {
	for _, at := range edges() {
		for _, least := range edges() {
			for _, most := range []int{math.MinInt, -16384, -1, 0, 1, 16384, math.MaxInt} {
				want := at >= least && at <= most
				if Holds([]api.Cond{cond(0, least, most)}, []int{at}) != want || Holds([]api.Cond{cond(2, least, most)}, []int{9, 9, at, 9}) != want {
					t.Error(at, least, most)
				}
				if zero := least <= 0 && most >= 0; Holds([]api.Cond{cond(1, least, most)}, []int{at}) != zero {
					t.Error("an axis that lacks", least, most)
				}
			}
		}
	}
	all, never := cond(0, -16384, 16384), cond(0, 1, 0)
	for n := range 20 {
		conds := slices.Repeat([]api.Cond{all}, n)
		if !Holds(conds, []int{7}) {
			t.Error(n, "that hold")
		}
		for i := range n {
			conds[i] = never
			if Holds(conds, []int{7}) {
				t.Error(n, "but", i)
			}
			conds[i] = all
		}
	}
}

// TestHoldsAxis: an axis below 0 holds never, one that lacks is at 0.
func TestHoldsAxis(t *testing.T) {
	everywhere := func(axis int) []api.Cond { return []api.Cond{cond(axis, math.MinInt, math.MaxInt)} }
	at0 := func(axis int) []api.Cond { return []api.Cond{cond(axis, 0, 0)} }
	for _, axis := range edges() {
		if Holds(everywhere(axis), []int{1, 2}) != (axis >= 0) || Holds(everywhere(axis), nil) != (axis >= 0) {
			t.Error(axis)
		}
		if Holds(at0(axis), []int{1, 2}) != (axis >= 2) || Holds(at0(axis), nil) != (axis >= 0) {
			t.Error(axis, "at 0")
		}
	}
	if !Holds(nil, nil) || !Holds(nil, []int{5}) || !Holds([]api.Cond{}, []int{}) {
		t.Error("no Conds")
	}
}

// TestLooks: the first swap of the feature, all of whose Conds hold, tells; else the feature itself.
func TestLooks(t *testing.T) {
	l, swaps := family(), corners()
	for _, x := range []struct {
		n      int
		coords []int
		want   []int
	}{
		{0, nil, []int{2, 0}},
		{0, []int{4095, -5}, []int{2, 0}},
		{0, []int{4096, 0}, []int{2, 0}},
		{0, []int{4096}, []int{2, 0}},
		{0, []int{4096, -1}, nil},
		{0, []int{8191, -16384}, nil},
		{0, []int{8192, -16384}, []int{3}},
		{0, []int{16384, 7, 8, 9}, []int{3}},
		{0, []int{16385}, []int{2, 0}},
		{1, []int{8192, -1}, []int{5, 1, 2}},
		{2, []int{8192, -1}, nil},
		{3, nil, []int{5, 0}},
		{3, []int{1, 1}, []int{4, 4}},
		{3, []int{-16385, 0}, []int{4, 4}},
		{4, nil, []int{1, 1}},
		{4, []int{5}, []int{1, 1}},
		{5, nil, nil},
		{-1, nil, nil},
		{math.MinInt, nil, nil},
		{math.MaxInt, nil, nil},
	} {
		if out := Looks(l, swaps, x.n, x.coords); !slices.Equal(out, x.want) {
			t.Error(x, out)
		}
	}
}

// TestLooksOfUnformed: whatever they are, a feature that isn't there has no lookups, a swap of it neither, and lookups are answered as they stand.
func TestLooksOfUnformed(t *testing.T) {
	odd := []int{math.MaxInt, -1, math.MinInt, 7, 7}
	swaps := []api.Swap{swap(-1, 1), swap(2, 1), swap(math.MinInt, 1), where(swap(1, odd...), cond(-1, -5, 5)), where(swap(1, odd...), cond(0, 5, -5)), where(swap(1, 8, -8), cond(9, 0, 0))}
	l := []api.Feature{feature("", odd...), feature("no tag", 3)}
	for n, want := range map[int][]int{-1: nil, 0: odd, 1: {8, -8}, 2: nil, math.MinInt: nil} {
		if x := Looks(l, swaps, n, []int{0}); !slices.Equal(x, want) {
			t.Error(n, x)
		}
	}
	if x := Looks(nil, swaps, 2, nil); len(x) != 0 {
		t.Error("no features", x)
	}
	if x := Chosen(l, swaps, nil, []string{""}); !slices.Equal(x, []int{math.MinInt, -1, 7, math.MaxInt}) {
		t.Error("no tag", x)
	}
	if x := Chosen(l, swaps, nil, []string{"no tag", ""}); !slices.Equal(x, []int{math.MinInt, -8, -1, 7, 8, math.MaxInt}) {
		t.Error("both", x)
	}
}

func TestChosen(t *testing.T) {
	l, swaps := family(), corners()
	for _, x := range []struct {
		on     string
		coords []int
		want   []int
	}{
		{"", nil, nil},
		{"liga", nil, []int{0, 2, 5}},
		{"liga", []int{8192}, []int{0, 3, 5}},
		{"liga", []int{4096, -6}, []int{4}},
		{"liga", []int{0, 1}, []int{0, 2, 4}},
		{"kern", nil, []int{1, 2, 5}},
		{"kern,liga", nil, []int{0, 1, 2, 5}},
		{"liga,kern", nil, []int{0, 1, 2, 5}},
		{"liga,kern,liga,kern,kern", nil, []int{0, 1, 2, 5}},
		{"    ", nil, nil},
		{"~~~~", nil, []int{1}},
		{"~~~~,    ,kern,liga", []int{9000, 9}, []int{1, 2, 3, 4, 5}},
		{"Liga,lig,ligat,KERN, ,kern ", nil, nil},
		{"smcp,kern,\xff", nil, []int{1, 2, 5}},
	} {
		if out := Chosen(l, swaps, x.coords, strings.Split(x.on, ",")); !slices.Equal(out, x.want) {
			t.Error(x, out)
		}
	}
	if out := Chosen(l, swaps, nil, nil); len(out) != 0 {
		t.Error("none on", out)
	}
	if out := Chosen(nil, swaps, nil, []string{"liga"}); len(out) != 0 {
		t.Error("no features", out)
	}
}

// someFeatures is features of few tags and lookups.
func someFeatures(r *rand.Rand) []api.Feature {
	l := make([]api.Feature, r.Intn(5))
	for i := range l {
		l[i] = feature([]string{"aaaa", "bbbb", "cccc", "dddd"}[r.Intn(4)], someLooks(r)...)
	}
	return l
}

// someLooks is up to three lookups from 0 to 9.
func someLooks(r *rand.Rand) []int {
	l := make([]int, r.Intn(4))
	for i := range l {
		l[i] = r.Intn(10)
	}
	return l
}

// someSwaps is swaps of so many features, or one beyond.
func someSwaps(r *rand.Rand, features int) []api.Swap {
	l := make([]api.Swap, r.Intn(7))
	for i := range l {
		l[i] = swap(r.Intn(features+2)-1, someLooks(r)...)
		for range r.Intn(3) {
			least := r.Intn(9) - 4
			l[i].Conds = append(l[i].Conds, cond(r.Intn(12)/3-r.Intn(12)/11, least, least+r.Intn(6)-1))
		}
	}
	return l
}

// someCoords is up to three small coordinates.
func someCoords(r *rand.Rand) []int {
	l := make([]int, r.Intn(4))
	for i := range l {
		l[i] = r.Intn(9) - 4
	}
	return l
}

// TestAtRandom: all answers are what the chapter's words say.
func TestAtRandom(t *testing.T) {
	r := rand.New(rand.NewSource(1))
	swapped := 0
	for range 30000 {
		l := someFeatures(r)
		swaps, coords := someSwaps(r, len(l)), someCoords(r)
		for n := -1; n <= len(l); n++ {
			want := byWords(l, swaps, n, coords)
			if x := Looks(l, swaps, n, coords); !slices.Equal(x, want) {
				t.Fatal(l, swaps, n, coords, x, want)
			}
			if n >= 0 && n < len(l) && !slices.Equal(want, l[n].Looks) {
				swapped++
			}
		}
		var on []string
		for range r.Intn(4) {
			on = append(on, []string{"aaaa", "bbbb", "cccc", "eeee"}[r.Intn(4)])
		}
		if x, want := Chosen(l, swaps, coords, on), chosenByWords(l, swaps, coords, on, 0, 9); !slices.Equal(x, want) {
			t.Fatal(l, swaps, coords, on, x, want)
		}
	}
	if swapped < 5000 {
		t.Error("swapped", swapped)
	}
}

// TestWhatFollows is P22.3.
func TestWhatFollows(t *testing.T) {
	r := rand.New(rand.NewSource(2))
	tags := []string{"aaaa", "bbbb", "cccc", "dddd", "eeee"}
	for range 5000 {
		l := someFeatures(r)
		swaps, coords := someSwaps(r, len(l)), someCoords(r)
		on := slices.Clone(tags[:r.Intn(len(tags))])
		first := Chosen(l, swaps, coords, on)
		if !slices.IsSorted(first) || len(slices.Compact(slices.Clone(first))) != len(first) {
			t.Fatal("each once, rising:", first)
		}
		often := slices.Repeat(on, 1+r.Intn(3))
		r.Shuffle(len(often), func(i, j int) { often[i], often[j] = often[j], often[i] })
		if x := Chosen(l, swaps, coords, often); !slices.Equal(x, first) {
			t.Fatal("another order, or more often:", x, first)
		}
		more := Chosen(l, swaps, coords, append(often, tags[r.Intn(len(tags))]))
		for _, look := range first {
			if !slices.Contains(more, look) {
				t.Fatal("left out:", look, first, more)
			}
		}
	}
}

// TestAnything: whatever the arguments are, calls end, and say what the chapter does.
func TestAnything(t *testing.T) {
	r := rand.New(rand.NewSource(3))
	number := func() int {
		return []int{math.MinInt, -16385, -16384, -1, 0, 0, 0, 0, 0, 1, 1, 1, 2, 16384, 16385, 65535, 65536, 65537, math.MaxInt}[r.Intn(19)]
	}
	numbers := func(most int) []int {
		l := make([]int, r.Intn(most+1))
		for i := range l {
			l[i] = number()
		}
		return l
	}
	tag := func() string { return []string{"", "liga", "liga", "kern", "\xff\xff\xff\xff", "long tag"}[r.Intn(6)] }
	wellFormed := 0
	for range 100000 {
		l, swaps := make([]api.Feature, r.Intn(3)), make([]api.Swap, r.Intn(3))
		for i := range l {
			l[i] = feature(tag(), numbers(2)...)
		}
		for i := range swaps {
			swaps[i] = swap(number(), numbers(2)...)
			for range r.Intn(3) {
				swaps[i].Conds = append(swaps[i].Conds, cond(number(), number(), number()))
			}
		}
		looks, axes, n, coords, on := number(), number(), number(), numbers(2), []string{tag(), tag()}
		want := formed(l, swaps, looks, axes)
		if want {
			wellFormed++
		}
		expectForm(t, "anything", l, swaps, looks, axes, want)
		if x, want := Looks(l, swaps, n, coords), byWords(l, swaps, n, coords); !slices.Equal(x, want) {
			t.Fatal(l, swaps, n, coords, x, want)
		}
		if x := Chosen(l, swaps, coords, on); !slices.IsSorted(x) {
			t.Fatal(l, swaps, coords, on, x)
		}
	}
	if wellFormed < 5000 {
		t.Error("formed", wellFormed)
	}
}

// TestGreat: as many as may be end soon.
func TestGreat(t *testing.T) {
	many := make([]int, 1<<20)
	for i := range many {
		many[i] = (i * 7919) % (1 << 20)
	}
	if x := Chosen([]api.Feature{feature("liga", many...)}, nil, nil, []string{"liga"}); len(x) != 1<<20 || x[0] != 0 || x[1<<20-1] != 1<<20-1 {
		t.Error("lookups", len(x))
	}
	if x := Chosen(make([]api.Feature, 1<<20), make([]api.Swap, 3), nil, []string{""}); len(x) != 0 {
		t.Error("features", len(x))
	}
	if x := Chosen(family(), make([]api.Swap, 1<<20), nil, []string{"liga", "kern"}); !slices.Equal(x, []int{1, 2, 4, 5}) {
		t.Error("swaps", x)
	}
	if x := Chosen(family(), nil, nil, slices.Repeat([]string{"kern"}, 1<<20)); !slices.Equal(x, []int{1, 2, 5}) {
		t.Error("tags", x)
	}
	if x := Looks(family(), []api.Swap{where(swap(1), make([]api.Cond, 1<<20)...)}, 1, nil); len(x) != 0 {
		t.Error("conds", x)
	}
	expectForm(t, "features", make([]api.Feature, 1<<20), nil, 1, 1, false)
	expectForm(t, "swaps", family(), make([]api.Swap, 1<<20), 6, 2, false)
	expectForm(t, "lookups", withFeature(feature("liga", many...)), nil, 1<<20, 2, false)
	expectForm(t, "conds", family(), withSwap(where(swap(1), make([]api.Cond, 1<<20)...)), 6, 2, false)
}

// spared is l with spare room, in which all is of l too.
func spared[T any](l []T) []T {
	return slices.Concat(l, l, l)[:len(l)]
}

// TestMemory: what is handed in is left as it is, its spare room too, and what is answered is new.
func TestMemory(t *testing.T) {
	l, swaps := spared(family()), spared(corners())
	for i := range l {
		l[i].Looks = spared(l[i].Looks)
	}
	for i := range swaps {
		swaps[i].Looks, swaps[i].Conds = spared(swaps[i].Looks), spared(swaps[i].Conds)
	}
	coords, on := spared([]int{8192, -1}), spared([]string{"liga", "kern", "    "})
	for n := range l {
		for _, at := range [][]int{nil, coords} {
			x := Looks(l, swaps, n, at)
			spoil(x)
			if y := Looks(l, swaps, n, at); !slices.Equal(y, byWords(family(), corners(), n, at)) {
				t.Error("an answer is shared", n, at, y)
			}
		}
	}
	x := Chosen(l, swaps, coords, on)
	spoil(x)
	if y := Chosen(l, swaps, coords, on); !slices.Equal(y, chosenByWords(family(), corners(), coords, on, 0, 9)) {
		t.Error("an answer is shared", y)
	}
	b, _ := Write(l, swaps, 6, 2)
	spoil(b)
	Formed(l, swaps, 6, 2)
	Holds(swaps[2].Conds, coords)
	expectSpared(t, l, swaps)
	if !slices.Equal(coords[:6], []int{8192, -1, 8192, -1, 8192, -1}) || !slices.Equal(on[:9], slices.Repeat([]string{"liga", "kern", "    "}, 3)) {
		t.Error("coordinates, or tags, have changed", coords[:6], on[:9])
	}
}

// spoil writes over all of an answer, and over its spare room.
func spoil[T byte | int](l []T) {
	l = l[:cap(l)]
	for i := range l {
		l[i] = 77
	}
}

// expectSpared asks that l and swaps are family and corners still, with their spare room.
func expectSpared(t *testing.T, l []api.Feature, swaps []api.Swap) {
	t.Helper()
	same := sameFeatures(l, family()) && sameSwaps(swaps, corners()) &&
		sameFeatures(l[:15][5:], slices.Repeat(family(), 2)) && sameSwaps(swaps[:15][5:], slices.Repeat(corners(), 2))
	for i, x := range family() {
		n := len(x.Looks)
		same = same && slices.Equal(l[i].Looks[:3*n], slices.Repeat(x.Looks, 3))
	}
	for i, x := range corners() {
		n, m := len(x.Looks), len(x.Conds)
		same = same && slices.Equal(swaps[i].Looks[:3*n], slices.Repeat(x.Looks, 3)) && slices.Equal(swaps[i].Conds[:3*m], slices.Repeat(x.Conds, 3))
	}
	if !same {
		t.Error("what was handed in has changed", l, swaps)
	}
}

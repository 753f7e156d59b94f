package strokes

import (
	"math"
	"math/rand"
	"slices"
	"strconv"
	"testing"

	"foundry/api"
	"foundry/store"
)

// oneAxis is a store of one axis: all of a row's first number at 1, and of its second one at -1.
func oneAxis() api.Store {
	return api.Store{
		Regions: [][]api.Tent{{{Peak: 16384, End: 16384}}, {{Start: -16384, Peak: -16384}}},
		Rows:    [][]int{{10, -7}, {32767, 1}, {-32768, 0}},
	}
}

// rows is a store of no regions, with n rows.
func rows(n int) api.Store {
	return api.Store{Rows: make([][]int, n)}
}

// step is a step whose numbers don't change.
func step(do int, numbers ...int) api.Step {
	s := api.Step{Do: do}
	for _, n := range numbers {
		s.Args = append(s.Args, api.Slot{Base: n, Row: api.None})
	}
	return s
}

func goes(x, y int) api.Step { return step(api.Go, x, y) }
func line(x, y int) api.Step { return step(api.Line, x, y) }
func draws(n int) api.Step   { return step(api.Draw, n) }
func curve(a, b, c, d, e, f int) api.Step {
	return step(api.Curve, a, b, c, d, e, f)
}

// changing is the step whose Arg number i changes by that row.
func changing(s api.Step, i, row int) api.Step {
	s.Args[i].Row = row
	return s
}

// family is formed drawings for oneAxis, of which the second one can't be drawn alone.
func family() [][]api.Step {
	return [][]api.Step{
		{goes(1, 2), draws(1), goes(5, 5), draws(2), line(-1, -1)},
		{changing(line(3, 0), 0, 0), changing(curve(1, 2, 3, 4, 5, 6), 5, 0)},
		{},
		{changing(goes(32767, -32768), 0, 1)},
		{draws(3), changing(goes(0, -32768), 1, 2)},
	}
}

// with is family, whose third drawing is this.
func with(drawing ...api.Step) [][]api.Step {
	l := family()
	l[2] = drawing
	return l
}

// sameDrawings answers whether both have the same steps.
func sameDrawings(l, m [][]api.Step) bool {
	return slices.EqualFunc(l, m, func(a, b []api.Step) bool {
		return slices.EqualFunc(a, b, func(x, y api.Step) bool { return x.Do == y.Do && slices.Equal(x.Args, y.Args) })
	})
}

// sameContours answers whether both have the same points.
func sameContours(l, m [][]api.Point) bool {
	return slices.EqualFunc(l, m, slices.Equal[[]api.Point])
}

// edges are numbers about those at which something changes.
func edges() []int {
	return []int{
		math.MinInt, -1 << 40, -1 << 32, -1<<16 - 1, -1 << 16, -1<<16 + 1, -32769, -32768, -32767, -2, -1, 0, 1, 2, 3, 4, 5, 6, 7,
		399, 400, 401, 32766, 32767, 32768, 65534, 65535, 65536, 65537, 1<<32 - 1, 1 << 32, 1 << 40, math.MaxInt,
	}
}

// formed is what the chapter says, one question after the other.
func formed(l [][]api.Step, s api.Store) bool {
	if len(l) > 20 {
		return false
	}
	many := map[int]int{1: 2, 2: 2, 3: 6, 4: 1}
	for _, d := range l {
		for _, x := range d {
			n, is := many[x.Do]
			if !is || len(x.Args) != n || len(d) > 60 {
				return false
			}
			for _, a := range x.Args {
				if a.Base < -32768 || a.Base > 32767 || a.Row < -1 || a.Row >= len(s.Rows) || a.Row >= 400 {
					return false
				}
				if x.Do == 4 && (a.Base < 0 || a.Base >= len(l) || a.Row != -1) {
					return false
				}
			}
		}
	}
	return true
}

// place is where a drawing that is under way has come to.
type place struct{ drawing, next int }

// model draws formed drawings as the chapter says, with the drawings that are under way in a list.
func model(l [][]api.Step, s api.Store, n int, coords []int) ([][]api.Point, api.Errno) {
	var out [][]api.Point
	var at api.Point
	under, steps := []place{{drawing: n}}, 0
	for len(under) > 0 {
		top := &under[len(under)-1]
		if top.next == len(l[top.drawing]) {
			under = under[:len(under)-1]
			continue
		}
		step := l[top.drawing][top.next]
		top.next++
		if steps++; steps > 400 {
			return nil, api.ErrLong
		}
		var v []int
		for _, a := range step.Args {
			n, e := store.Rounded(s, a, coords)
			if e != api.OK {
				return nil, e
			}
			v = append(v, n)
		}
		if step.Do == 4 && len(under) > 10 {
			return nil, api.ErrDepth
		}
		if step.Do == 4 {
			under = append(under, place{drawing: v[0]})
			continue
		}
		if step.Do == 1 {
			out = append(out, nil)
		}
		if len(out) == 0 {
			return nil, api.ErrForm
		}
		for len(v) > 0 {
			at = api.Point{X: at.X + v[0], Y: at.Y + v[1], On: len(v) == 2}
			out[len(out)-1] = append(out[len(out)-1], at)
			v = v[2:]
		}
	}
	return out, api.OK
}

// expectAt holds At against the contours, or the error, that are wanted.
func expectAt(t *testing.T, name string, l [][]api.Step, s api.Store, n int, coords []int, want [][]api.Point, wrong api.Errno) {
	t.Helper()
	if c, e := At(l, s, n, coords); e != wrong || !sameContours(c, want) {
		t.Errorf("%s: drawing %d at %v: %v, error %d; want %v, error %d", name, n, coords, c, e, want, wrong)
	}
}

// TestExample is the chapter's.
func TestExample(t *testing.T) {
	l := [][]api.Step{{goes(1, 2), line(3, 0)}}
	expectAt(t, "example", l, api.Store{}, 0, nil, [][]api.Point{{{X: 1, Y: 2, On: true}, {X: 4, Y: 2, On: true}}}, api.OK)
}

// expectForm asks Formed, and the other calls, which hang on it.
func expectForm(t *testing.T, name string, l [][]api.Step, s api.Store, want bool) {
	t.Helper()
	if formed(l, s) != want {
		t.Errorf("%s: the test's own question says %v", name, !want)
	}
	if Formed(l, s) != want {
		t.Errorf("%s: Formed says %v", name, !want)
	}
	expectTable(t, name, l, s, want)
	if want {
		return
	}
	for n := -1; n <= len(l); n++ {
		expectAt(t, name, l, s, n, nil, nil, api.ErrForm)
	}
	if m, e := Bake(l, s, nil); e != api.ErrForm || len(m) != 0 {
		t.Errorf("%s: Bake: %v, error %d", name, m, e)
	}
}

// TestFormed is P18.1.
func TestFormed(t *testing.T) {
	s := oneAxis()
	expectForm(t, "family", family(), s, true)
	expectForm(t, "none", nil, s, true)
	expectForm(t, "none, no store", [][]api.Step{}, api.Store{}, true)
	for _, n := range []int{1, 19, 20, 21, 400} {
		expectForm(t, strconv.Itoa(n)+" empty drawings", make([][]api.Step, n), s, n <= 20)
		expectForm(t, strconv.Itoa(n)+" drawings", slices.Repeat([][]api.Step{{draws(n - 1)}}, n), s, n <= 20)
	}
	for _, n := range []int{1, 59, 60, 61, 65536} {
		expectForm(t, strconv.Itoa(n)+" steps", with(slices.Repeat([]api.Step{curve(1, 2, 3, 4, 5, 6)}, n)...), s, n <= 60)
	}
	expectForm(t, "all that may be", slices.Repeat([][]api.Step{slices.Repeat([]api.Step{curve(1, 2, 3, 4, 5, 6)}, 60)}, 20), s, true)
	for _, do := range edges() {
		for n := range 9 {
			right := (do == 1 || do == 2) && n == 2 || do == 3 && n == 6 || do == 4 && n == 1
			expectForm(t, "do "+strconv.Itoa(do)+" of "+strconv.Itoa(n), with(step(do, make([]int, n)...)), s, right)
		}
	}
	expectForm(t, "no rows", family(), api.Store{}, false)
	expectForm(t, "too few rows", family(), rows(2), false)
	expectForm(t, "the last drawing", append(family(), []api.Step{line(0, 0), {Do: api.Line}}), s, false)
	expectForm(t, "very many args", with(step(api.Curve, make([]int, 1<<16)...)), s, false)
}

// TestFormedArgs: each Arg of each step is asked, and of Draw more than of the others.
func TestFormedArgs(t *testing.T) {
	s := oneAxis()
	for do, n := range map[int]int{api.Go: 2, api.Line: 2, api.Curve: 6} {
		for i := range n {
			for _, edge := range edges() {
				name := "do " + strconv.Itoa(do) + ", arg " + strconv.Itoa(i) + " of " + strconv.Itoa(edge)
				odd := step(do, make([]int, n)...)
				odd.Args[i].Base = edge
				expectForm(t, "base: "+name, with(goes(1, 1), odd), s, edge >= -32768 && edge <= 32767)
				odd = changing(step(do, make([]int, n)...), i, edge)
				expectForm(t, "row: "+name, with(goes(1, 1), odd), s, edge >= -1 && edge <= 2)
				expectForm(t, "row of 401: "+name, with(goes(1, 1), odd), rows(401), edge >= -1 && edge <= 399)
			}
		}
	}
	for _, edge := range edges() {
		expectForm(t, "draw "+strconv.Itoa(edge), with(draws(edge)), s, edge >= 0 && edge <= 4)
		expectForm(t, "draw by row "+strconv.Itoa(edge), with(changing(draws(0), 0, edge)), s, edge == -1)
	}
}

// TestFormedOfUnformedStore: only whether the slots fit is asked of the store, not whether it is formed.
func TestFormedOfUnformedStore(t *testing.T) {
	for _, s := range []api.Store{
		{Rows: [][]int{{1}, {2, 3}, nil}},
		{Regions: make([][]api.Tent, 50), Rows: make([][]int, 500)},
		{Regions: [][]api.Tent{{{Start: 5, Peak: 3, End: 1}}}, Rows: [][]int{{math.MaxInt}, {0}, {0}}},
	} {
		expectForm(t, "unformed store", family(), s, true)
		for n := range family() {
			want, wrong := model(family(), s, n, []int{3})
			expectAt(t, "unformed store", family(), s, n, []int{3}, want, wrong)
		}
	}
	huge := api.Store{Regions: [][]api.Tent{{{Peak: 16384, End: 16384}}}, Rows: [][]int{{math.MaxInt}, {math.MinInt}}}
	expectAt(t, "far beyond", [][]api.Step{{changing(goes(1, 1), 1, 1)}}, huge, 0, []int{16384}, nil, api.ErrRange)
}

// TestAt is P18.1: what each step does, at places of the axis.
func TestAt(t *testing.T) {
	s := oneAxis()
	want := [][]api.Point{
		{{X: 1, Y: 2, On: true}, {X: 9, Y: 2, On: true}, {X: 10, Y: 4}, {X: 13, Y: 8}, {X: 18, Y: 19, On: true}},
		{{X: 23, Y: 24, On: true}, {X: 22, Y: 23, On: true}},
	}
	expectAt(t, "halfway", family(), s, 0, []int{8192}, want, api.OK)
	// -7 / 2 is rounded to -3, of each Arg by itself.
	want = [][]api.Point{
		{{X: 1, Y: 2, On: true}, {X: 1, Y: 2, On: true}, {X: 2, Y: 4}, {X: 5, Y: 8}, {X: 10, Y: 11, On: true}},
		{{X: 15, Y: 16, On: true}, {X: 14, Y: 15, On: true}},
	}
	expectAt(t, "halfway down", family(), s, 0, []int{-8192}, want, api.OK)
	expectAt(t, "no steps", family(), s, 2, []int{8192}, nil, api.OK)
	expectAt(t, "as far as a field goes", family(), s, 3, nil, [][]api.Point{{{X: 32767, Y: -32768, On: true}}}, api.OK)
	// Only Args must be fields: where the pen is may leave them.
	expectAt(t, "beyond a field", family(), s, 4, nil, [][]api.Point{{{X: 32767, Y: -32768, On: true}}, {{X: 32767, Y: -65536, On: true}}}, api.OK)
	far := slices.Repeat([]api.Step{draws(1)}, 6)
	steps := slices.Repeat([]api.Step{goes(-32768, 32767)}, 60)
	c, e := At([][]api.Step{far, steps}, s, 0, nil)
	if e != api.OK || len(c) != 360 || c[359][0] != (api.Point{X: 360 * -32768, Y: 360 * 32767, On: true}) {
		t.Error("far beyond a field", len(c), e)
	}
	for _, n := range []int{math.MinInt, -1, 5, 6, 20, 1 << 40, math.MaxInt} {
		expectAt(t, "no such drawing", family(), s, n, nil, nil, api.ErrNone)
	}
	expectAt(t, "of none", nil, s, 0, nil, nil, api.ErrNone)
	expectAt(t, "not formed comes first", append(family(), []api.Step{draws(6)}), s, 6, nil, nil, api.ErrForm)
}

// TestOnePen: what is drawn within goes on where the pen is, at the contour that it has begun, and what comes behind goes on from there.
func TestOnePen(t *testing.T) {
	l := [][]api.Step{
		{goes(1, 0), draws(1), line(100, 0), draws(1), draws(2), line(0, 1)},
		{line(10, 0), draws(2)},
		{goes(0, 1000), line(0, 1000)},
	}
	on := func(x, y int) api.Point { return api.Point{X: x, Y: y, On: true} }
	expectAt(t, "one pen", l, api.Store{}, 0, nil, [][]api.Point{
		{on(1, 0), on(11, 0)},
		{on(11, 1000), on(11, 2000), on(111, 2000), on(121, 2000)},
		{on(121, 3000), on(121, 4000)},
		{on(121, 5000), on(121, 6000), on(121, 6001)},
	}, api.OK)
	// A contour that is begun within is enough for what comes behind.
	expectAt(t, "begun within", [][]api.Step{{draws(1), line(2, 3)}, {goes(1, 1)}}, api.Store{}, 0, nil, [][]api.Point{{on(1, 1), on(3, 4)}}, api.OK)
	// Each Go begins a contour, and a point stands in each.
	expectAt(t, "contours of one point", [][]api.Step{{goes(0, 0), goes(0, 0)}}, api.Store{}, 0, nil, [][]api.Point{{on(0, 0)}, {on(0, 0)}}, api.OK)
}

// TestAheadOfContour: a Line or a Curve ahead of any contour.
func TestAheadOfContour(t *testing.T) {
	for _, first := range []api.Step{line(1, 1), line(0, 0), curve(1, 1, 1, 1, 1, 1), curve(0, 0, 0, 0, 0, 0)} {
		expectAt(t, "first step", [][]api.Step{{first, goes(1, 1)}}, api.Store{}, 0, nil, nil, api.ErrForm)
		expectAt(t, "first step within", [][]api.Step{{draws(1), goes(1, 1)}, {first}}, api.Store{}, 0, nil, nil, api.ErrForm)
		expectAt(t, "behind nothing", [][]api.Step{{draws(1), draws(1), first}, {}}, api.Store{}, 0, nil, nil, api.ErrForm)
	}
}

// TestBeyondField: an Arg that is no field, be it the first one or the last.
func TestBeyondField(t *testing.T) {
	s := oneAxis()
	for _, c := range []struct {
		base, row, at int
		wrong         api.Errno
	}{
		{32767, 0, 0, api.OK}, {32767, 0, 819, api.OK}, {32767, 0, 820, api.ErrRange}, {32767, 0, 16384, api.ErrRange},
		{-32768, 0, -1170, api.OK}, {-32768, 0, -1171, api.ErrRange}, {-32768, 0, 16384, api.OK},
		{0, 1, 16384, api.OK}, {1, 1, 16384, api.ErrRange}, {0, 2, 16384, api.OK}, {-1, 2, 16384, api.ErrRange},
	} {
		for i := range 6 {
			odd := changing(curve(0, 0, 0, 0, 0, 0), i, c.row)
			odd.Args[i].Base = c.base
			l := [][]api.Step{{goes(0, 0), odd}, {odd}}
			if _, e := At(l, s, 0, []int{c.at}); e != c.wrong {
				t.Error(c, i, e)
			}
			if _, e := Bake(l, s, []int{c.at}); e != c.wrong {
				t.Error("Bake", c, i, e)
			}
		}
	}
}

// chain is n drawings, each of which draws the next one; the last one begins a contour.
func chain(n int) [][]api.Step {
	var l [][]api.Step
	for i := range n - 1 {
		l = append(l, []api.Step{draws(i + 1)})
	}
	return append(l, []api.Step{goes(1, 1)})
}

// TestDepth: a Draw within 10 Draws that are under way.
func TestDepth(t *testing.T) {
	s := api.Store{}
	dot := [][]api.Point{{{X: 1, Y: 1, On: true}}}
	for n := range 20 {
		want, wrong := dot, api.OK
		if 19-n > 10 {
			want, wrong = nil, api.ErrDepth
		}
		expectAt(t, "chain", chain(20), s, n, nil, want, wrong)
	}
	expectAt(t, "within itself", [][]api.Step{{draws(0)}}, s, 0, nil, nil, api.ErrDepth)
	expectAt(t, "within itself, contours too", [][]api.Step{{goes(1, 1), draws(0)}}, s, 0, nil, nil, api.ErrDepth)
	expectAt(t, "within one another", [][]api.Step{{goes(1, 1), draws(1)}, {line(1, 1), draws(0)}}, s, 1, nil, nil, api.ErrForm)
	// Draws that are over don't count.
	l := append(chain(11), slices.Repeat([]api.Step{draws(1)}, 20))
	if c, e := At(l, s, 11, nil); e != api.OK || len(c) != 20 {
		t.Error("one behind the other", len(c), e)
	}
	// It is the Draw that is refused, whatever it draws.
	l = chain(12)
	l[11] = nil
	expectAt(t, "of nothing", l, s, 0, nil, nil, api.ErrDepth)
	expectAt(t, "of nothing", l, s, 1, nil, nil, api.OK)
}

// counted is a drawing, number 0, that comes to n steps, Draws too.
func counted(n int) [][]api.Step {
	first := slices.Repeat([]api.Step{goes(0, 0)}, n%40)
	first = append(first, slices.Repeat([]api.Step{draws(1)}, n/40)...)
	return [][]api.Step{first, slices.Repeat([]api.Step{goes(0, 0)}, 39), {}}
}

// TestLong: a step behind 400 steps.
func TestLong(t *testing.T) {
	s := oneAxis()
	for _, n := range []int{100, 359, 360, 398, 399, 400, 401, 402, 450} {
		want, wrong := model(counted(n), s, 0, nil)
		if (wrong == api.OK) != (n <= 400) {
			t.Fatal("the test's own drawing of", n, wrong)
		}
		expectAt(t, strconv.Itoa(n)+" steps", counted(n), s, 0, nil, want, wrong)
	}
	// The 401st step isn't asked for anything else, whatever it is; the 400th is.
	for _, c := range []struct {
		step  api.Step
		wrong api.Errno
	}{{changing(goes(32767, 0), 0, 0), api.ErrRange}, {draws(2), api.OK}, {line(0, 0), api.OK}, {draws(3), api.ErrLong}} {
		l := append(counted(399), []api.Step{goes(0, 0)})
		l[0] = append(l[0], c.step)
		if _, e := At(l, s, 0, []int{16384}); e != c.wrong {
			t.Error("the 400th", c.step, e)
		}
		l = append(counted(400), []api.Step{goes(0, 0)})
		l[0] = append(l[0], c.step)
		expectAt(t, "the 401st", l, s, 0, []int{16384}, nil, api.ErrLong)
	}
	// Ahead of any contour, and deep within.
	empty := [][]api.Step{slices.Repeat([]api.Step{draws(1)}, 60), slices.Repeat([]api.Step{draws(2)}, 60), {}}
	expectAt(t, "many of nothing", empty, s, 0, nil, nil, api.ErrLong)
	expectAt(t, "60 of nothing", empty, s, 1, nil, nil, api.OK)
	deep := append(chain(10), slices.Repeat([]api.Step{draws(11)}, 60), []api.Step{goes(0, 0)})
	deep[9] = slices.Repeat([]api.Step{draws(10)}, 4)
	expectAt(t, "deep within", deep, s, 1, nil, nil, api.ErrLong)
	expectAt(t, "deeper", deep, s, 0, nil, nil, api.ErrDepth)
}

// TestErrorsInOrder: the first one that happens.
func TestErrorsInOrder(t *testing.T) {
	s := oneAxis()
	wide := func() api.Step { return changing(goes(0, 32767), 1, 0) }
	wideLine := changing(line(0, 32767), 1, 0)
	most := []int{16384}
	expectAt(t, "range, then form", [][]api.Step{{draws(1), line(1, 1)}, {wide()}}, s, 0, most, nil, api.ErrRange)
	expectAt(t, "form, then range", [][]api.Step{{line(1, 1), wide()}}, s, 0, most, nil, api.ErrForm)
	// All Args are rounded ahead of what the step does.
	expectAt(t, "range and form of one step", [][]api.Step{{wideLine}}, s, 0, most, nil, api.ErrRange)
	expectAt(t, "form only", [][]api.Step{{wideLine}}, s, 0, nil, nil, api.ErrForm)
	expectAt(t, "range, then depth", [][]api.Step{{wide(), draws(0)}}, s, 0, most, nil, api.ErrRange)
	expectAt(t, "depth, then range", [][]api.Step{{draws(0), wide()}}, s, 0, most, nil, api.ErrDepth)
	expectAt(t, "depth, then form", [][]api.Step{{draws(0), line(1, 1)}}, s, 0, most, nil, api.ErrDepth)
	// What isn't drawn isn't asked at these coordinates.
	l := [][]api.Step{{goes(1, 1)}, {wide()}, {line(1, 1)}, {draws(3)}}
	expectAt(t, "others are wrong", l, s, 0, most, [][]api.Point{{{X: 1, Y: 1, On: true}}}, api.OK)
}

// TestCoordinates: those that lack are 0, and what is no coordinate has no part.
func TestCoordinates(t *testing.T) {
	s := oneAxis()
	for _, coords := range [][]int{nil, {}, {0}, {16385}, {-16385}, {math.MaxInt}, {math.MinInt}, {0, 16384}, {8192}, {8192, 1, 2, 3, 4, 5}} {
		for n := range family() {
			want, wrong := model(family(), s, n, coords)
			expectAt(t, "coordinates", family(), s, n, coords, want, wrong)
		}
	}
}

// randomDrawings is up to six drawings for oneAxis, formed, which mostly begin with a contour.
func randomDrawings(r *rand.Rand) [][]api.Step {
	l := make([][]api.Step, 1+r.Intn(6))
	for i := range l {
		if r.Intn(4) > 0 {
			l[i] = append(l[i], goes(r.Intn(9), r.Intn(9)))
		}
		if r.Intn(8) == 0 {
			l[i] = append(l[i], slices.Repeat([]api.Step{draws(min(i+1, len(l)-1))}, 50)...)
		}
		for range r.Intn(8) {
			do := 1 + r.Intn(4)
			if do == api.Draw {
				// Mostly a later one, so that it comes to an end.
				n := r.Intn(len(l))
				if r.Intn(8) > 0 {
					n = max(n, min(i+1, len(l)-1))
				}
				l[i] = append(l[i], draws(n))
				continue
			}
			next := api.Step{Do: do}
			for range argsOf(do) {
				base := r.Intn(200) - 100
				if r.Intn(100) == 0 {
					base = 32767
				}
				next.Args = append(next.Args, api.Slot{Base: base, Row: min(0, r.Intn(3)-1)})
			}
			l[i] = append(l[i], next)
		}
	}
	return l
}

// TestRandom holds At, Bake, Write and Read against the tests' own ways, and P18.4.
func TestRandom(t *testing.T) {
	r := rand.New(rand.NewSource(18))
	s := oneAxis()
	met := map[api.Errno]int{}
	for range 1500 {
		l := randomDrawings(r)
		expectForm(t, "random", l, s, true)
		coords := []int{r.Intn(32769) - 16384}
		for n := range l {
			want, wrong := model(l, s, n, coords)
			met[wrong]++
			expectAt(t, "random", l, s, n, coords, want, wrong)
		}
		expectBaked(t, "random", l, s, coords)
	}
	for _, e := range []api.Errno{api.OK, api.ErrForm, api.ErrRange, api.ErrDepth, api.ErrLong} {
		if met[e] < 100 {
			t.Error("error", e, "was met", met[e])
		}
	}
}

// expectBaked is P18.2 and P18.4: Bake is as the chapter says, and what is baked is drawn as it was, wherever, without a store.
func expectBaked(t *testing.T, name string, l [][]api.Step, s api.Store, coords []int) {
	t.Helper()
	wrong := api.OK
	var want [][]api.Step
	for _, d := range l {
		var drawing []api.Step
		for _, x := range d {
			next := api.Step{Do: x.Do}
			for _, a := range x.Args {
				n, e := store.Rounded(s, a, coords)
				wrong = max(wrong, e)
				next.Args = append(next.Args, api.Slot{Base: n, Row: -1})
			}
			drawing = append(drawing, next)
		}
		want = append(want, drawing)
	}
	if wrong != api.OK {
		want = nil
	}
	m, e := Bake(l, s, coords)
	if e != wrong || !sameDrawings(m, want) {
		t.Errorf("%s: Bake at %v: %v, error %d; want %v, error %d", name, coords, m, e, want, wrong)
	}
	for n := range m {
		c, e := At(l, s, n, coords)
		for _, elsewhere := range [][]int{nil, {-5, 99999}} {
			expectAt(t, name+", baked", m, api.Store{}, n, elsewhere, c, e)
			expectAt(t, name+", baked, with the store", m, s, n, elsewhere, c, e)
		}
	}
}

// TestBake is P18.2 at places of the axis.
func TestBake(t *testing.T) {
	s := oneAxis()
	m, e := Bake(family()[:3], s, []int{8192})
	want := [][]api.Step{family()[0], {line(8, 0), curve(1, 2, 3, 4, 5, 11)}, {}}
	if e != api.OK || !sameDrawings(m, want) {
		t.Error(m, e)
	}
	for _, coords := range [][]int{nil, {0}, {1}, {-1}, {8192}, {-8192}, {16384}, {-16384}, {16385}} {
		expectBaked(t, "family", family(), s, coords)
		expectBaked(t, "three", family()[:3], s, coords)
	}
	// A drawing that isn't drawn by any other is asked too, and one that can't be drawn is baked.
	if m, e := Bake([][]api.Step{{goes(1, 1)}, {changing(line(32767, 0), 0, 0)}}, s, []int{16384}); e != api.ErrRange || len(m) != 0 {
		t.Error(m, e)
	}
	endless := [][]api.Step{{draws(0)}, {line(1, 1)}, slices.Repeat([]api.Step{draws(2)}, 60)}
	if m, e := Bake(endless, s, nil); e != api.OK || !sameDrawings(m, endless) {
		t.Error(m, e)
	}
	for _, l := range [][][]api.Step{nil, {}} {
		if m, e := Bake(l, s, nil); e != api.OK || len(m) != 0 {
			t.Error(m, e)
		}
	}
}

// spared is the list with room behind it that must stay as it is.
func spared[T any](l []T) []T {
	room := make([]T, len(l), len(l)+2)
	copy(room, l)
	return room
}

// roomy is family with spare room in all its lists.
func roomy() [][]api.Step {
	l := spared(family())
	for i := range l {
		l[i] = spared(l[i])
		for j := range l[i] {
			l[i][j].Args = spared(l[i][j].Args)
		}
	}
	return l
}

// expectRoomy fails unless l is still family, and its spare room is unused.
func expectRoomy(t *testing.T, l [][]api.Step) {
	t.Helper()
	if !sameDrawings(l, family()) {
		t.Error("what was handed in has changed", l)
	}
	if more := l[:len(l)+2][len(l):]; more[0] != nil || more[1] != nil {
		t.Error("spare room has changed", more)
	}
	for _, d := range l {
		for _, x := range d[:len(d)+2][len(d):] {
			if x.Do != 0 || x.Args != nil {
				t.Error("spare room has changed", x)
			}
		}
		for _, x := range d {
			if more := x.Args[:len(x.Args)+2][len(x.Args):]; !slices.Equal(more, make([]api.Slot, 2)) {
				t.Error("spare room has changed", more)
			}
		}
	}
}

// TestMemory: what is handed in is left as it is, its spare room too, and what is answered is new, each list by itself.
func TestMemory(t *testing.T) {
	l, coords := roomy(), spared([]int{8192})
	c, e := At(l, oneAxis(), 0, coords)
	want, _ := model(family(), oneAxis(), 0, []int{8192})
	if e != api.OK || !sameContours(c, want) {
		t.Fatal(c, e)
	}
	for i := range c {
		_ = append(c[i], api.Point{X: 12345})
		c[i][0].X += 7
		want[i][0].X += 7
	}
	if !sameContours(c, want) {
		t.Error("contours share memory", c)
	}
	m, _ := Bake(l[:3], oneAxis(), coords)
	n, _ := Bake(l[:3], oneAxis(), coords)
	for i := range m {
		for j := range m[i] {
			_ = append(m[i][j].Args, api.Slot{Base: 99})
			m[i][j].Do = 9
			for k := range m[i][j].Args {
				m[i][j].Args[k].Base++
				if got := m[i][j].Args[k].Base; got != n[i][j].Args[k].Base+1 {
					t.Error("baked lists share memory", i, j, k, got)
				}
			}
		}
		_ = append(m[i], api.Step{Do: 99})
	}
	Formed(l, oneAxis())
	Write(l, oneAxis())
	expectRoomy(t, l)
	if !slices.Equal(coords[:3], []int{8192, 0, 0}) {
		t.Error("coordinates have changed", coords[:3])
	}
}

package subst

import (
	"math"
	"math/rand"
	"slices"
	"testing"

	"foundry/api"
)

// rules is a lookup of that kind, without Skip.
func rules(kind int, l ...api.Rule) api.Lookup {
	return api.Lookup{Kind: kind, Rules: l}
}

// skipping is the lookup with Skip.
func skipping(x api.Lookup) api.Lookup {
	x.Skip = true
	return x
}

// put is a rule that puts out in the place of in.
func put(in, out []int) api.Rule {
	return api.Rule{In: in, Out: out}
}

// looks is a rule that does a lookup within in.
func look(in []int, at, k int) api.Rule {
	return api.Rule{In: in, At: at, Look: k}
}

// ones is that many glyphs 1.
func ones(n int) []int {
	return slices.Repeat([]int{1}, n)
}

// outside is numbers that are none of a list of that length.
func outside(length int) []int {
	return []int{math.MinInt, math.MinInt + 1, -1 << 32, -2, -1, length, length + 1, 1 << 32, math.MaxInt - 1, math.MaxInt}
}

func expectOne(t *testing.T, l []api.Lookup, k int, marks []bool, line []int, at int, want []int, on int) {
	t.Helper()
	if out, o, ok := One(l, k, marks, line, at); !ok || o != on || !slices.Equal(out, want) {
		t.Errorf("lookup %d of %v at %d: %v %d %v, want %v %d", k, line, at, out, o, ok, want, on)
	}
}

func expectNothing(t *testing.T, l []api.Lookup, k int, marks []bool, line []int, at int) {
	t.Helper()
	if out, on, ok := One(l, k, marks, line, at); ok || on != at || !slices.Equal(out, line) {
		t.Errorf("lookup %d of %v at %d: %v %d %v, want nothing done", k, line, at, out, on, ok)
	}
}

func expectLine(t *testing.T, l []api.Lookup, k int, marks []bool, line, want []int) {
	t.Helper()
	if out, e := Line(l, k, marks, line); e != api.OK || !slices.Equal(out, want) {
		t.Errorf("lookup %d in %v: %v %d, want %v", k, line, out, e, want)
	}
}

func expectError(t *testing.T, l []api.Lookup, k int, line []int, want api.Errno) {
	t.Helper()
	if out, e := Line(l, k, nil, line); e != want || len(out) > 0 {
		t.Errorf("lookup %d in %d glyphs: %v %d, want error %d", k, len(line), out, e, want)
	}
	if out, e := All(l, []int{k}, nil, line); e != want || len(out) > 0 {
		t.Errorf("all of lookup %d in %d glyphs: %v %d, want error %d", k, len(line), out, e, want)
	}
}

// TestExample is the chapter's.
func TestExample(t *testing.T) {
	l := []api.Lookup{rules(api.Ligature, put([]int{1, 2}, []int{9}))}
	expectLine(t, l, 0, nil, []int{1, 2, 2}, []int{9, 2})
}

// TestFormed is P20.1, for lookups that are formed.
func TestFormed(t *testing.T) {
	fit := rules(api.Single, put([]int{3}, []int{4}))
	for i, l := range [][]api.Lookup{
		nil,
		{},
		{rules(api.Single)},
		{rules(api.Multiple)},
		{rules(api.Ligature)},
		{rules(api.Context)},
		{fit},
		{rules(api.Single, put([]int{0}, []int{49}), put([]int{49}, []int{0}))},
		{rules(api.Multiple, put([]int{0}, nil), put([]int{0}, []int{}), put([]int{1}, ones(8)), put([]int{1}, ones(1)))},
		{rules(api.Ligature, put(ones(2), []int{0}), put(ones(8), []int{49}))},
		{rules(api.Context, look(ones(1), 0, 0), look(ones(8), 7, 0), look(ones(8), 0, 1), look(ones(2), 1, 2)), fit, rules(api.Multiple)},
		slices.Repeat([]api.Lookup{fit}, api.MaxLookups),
		{skipping(rules(api.Single, slices.Repeat([]api.Rule{put([]int{3}, []int{4})}, api.MaxRules)...))},
		{rules(api.Context, look(ones(3), 2, api.MaxLookups-1)), 9: fit},
	} {
		if !Formed(l, 50) || !Formed(l, math.MaxInt) || !Formed(l, mostGlyphs) {
			t.Error(i)
		}
	}
	// Glyphs' numbers are asked of rules alone.
	for _, glyphs := range []int{math.MinInt, -1, 0, 1} {
		if !Formed([]api.Lookup{rules(api.Single), rules(api.Context)}, glyphs) || !Formed(nil, glyphs) {
			t.Error("no rules", glyphs)
		}
		if Formed([]api.Lookup{fit}, glyphs) {
			t.Error("a rule", glyphs)
		}
	}
	if Formed([]api.Lookup{fit}, 4) || !Formed([]api.Lookup{fit}, 5) {
		t.Error("Out is the greatest")
	}
}

// unfit is rules that no lookup of these kinds may have, for 50 glyphs and 3 lookups, of which the last one moves.
func unfit() []struct {
	kinds []int
	rule  api.Rule
} {
	all, others := []int{api.Single, api.Multiple, api.Ligature, api.Context}, []int{api.Single, api.Multiple, api.Ligature}
	single, ligature, context := []int{api.Single}, []int{api.Ligature}, []int{api.Context}
	l := []struct {
		kinds []int
		rule  api.Rule
	}{
		{all, api.Rule{}},
		{all, put(nil, []int{1})},
		{all, put(ones(9), []int{1})},
		{all, put(ones(9), nil)},
		{single, put(ones(2), []int{1})},
		{[]int{api.Multiple}, put(ones(2), []int{1})},
		{[]int{api.Multiple}, put(ones(2), nil)},
		{[]int{api.Multiple}, put(ones(1), ones(9))},
		{single, put(ones(1), nil)},
		{single, put(ones(1), ones(2))},
		{ligature, put(ones(1), ones(1))},
		{ligature, put(ones(2), nil)},
		{ligature, put(ones(2), ones(2))},
		{context, put(ones(1), ones(1))},
		{context, put(ones(2), ones(1))},
		{context, look(ones(2), 2, 0)},
		{context, look(ones(2), 1, 2)},
		{context, look(ones(8), 8, 0)},
		{others, api.Rule{In: ones(1), Out: ones(1), At: 1}},
		{others, api.Rule{In: ones(2), Out: ones(1), At: 1}},
		{others, api.Rule{In: ones(2), Out: ones(1), At: -1}},
		{others, api.Rule{In: ones(1), Out: ones(1), Look: 1}},
		{others, api.Rule{In: ones(2), Out: ones(1), Look: 1}},
		{others, api.Rule{In: ones(1), Out: ones(1), Look: -1}},
	}
	add := func(kinds []int, r api.Rule) {
		l = append(l, struct {
			kinds []int
			rule  api.Rule
		}{kinds, r})
	}
	for _, k := range outside(3) {
		add(context, look(ones(2), 0, k))
	}
	for _, at := range outside(2) {
		add(context, look(ones(2), at, 0))
	}
	for _, glyph := range outside(50) {
		for _, in := range [][]int{{glyph}, {glyph, 1}, {1, glyph}, {1, 1, 1, 1, 1, 1, 1, glyph}} {
			add(all, put(in, ones(1)))
			add(all, put(in, nil))
		}
		for _, out := range [][]int{{glyph}, {glyph, 1}, {1, glyph}, {1, 1, 1, 1, 1, 1, 1, glyph}} {
			add(all, put(ones(1), out))
			add(all, put(ones(2), out))
		}
	}
	for _, x := range []api.Slot{{Base: 1}, {Row: 1}, {Base: -1}, {Row: api.None}} {
		add(single, api.Rule{In: ones(1), Out: ones(1), X: x})
		add(single, api.Rule{In: ones(1), Out: ones(1), Y: x})
		add(single, api.Rule{In: ones(1), Out: ones(1), W: x})
		add(ligature, api.Rule{In: ones(2), Out: ones(1), X: x})
		add(ligature, api.Rule{In: ones(2), Out: ones(1), Y: x})
		add(ligature, api.Rule{In: ones(2), Out: ones(1), W: x})
		add([]int{api.Multiple, api.Context}, api.Rule{In: ones(1), X: x})
		add([]int{api.Multiple, api.Context}, api.Rule{In: ones(1), Y: x})
		add([]int{api.Multiple, api.Context}, api.Rule{In: ones(1), W: x})
	}
	return l
}

// TestUnformed is P20.1, for rules and lists that aren't formed.
func TestUnformed(t *testing.T) {
	good := map[int]api.Rule{api.Single: put(ones(1), ones(1)), api.Multiple: put(ones(1), nil), api.Ligature: put(ones(2), ones(1)), api.Context: look(ones(2), 1, 1)}
	for i, x := range unfit() {
		for _, kind := range x.kinds {
			l := []api.Lookup{rules(kind, good[kind], x.rule), rules(api.Single), rules(api.Kern, api.Rule{At: 3})}
			if Formed(l, 50) {
				t.Error(i, kind, x.rule)
			}
			slices.Reverse(l)
			if Formed(l, 50) && (kind != api.Context || x.rule.Look != 2) {
				t.Error("behind others", i, kind, x.rule)
			}
			l[2].Rules = l[2].Rules[:1]
			if !Formed(l, 50) {
				t.Error("without it", i, kind)
			}
		}
	}
	// Of lookups that don't put glyphs nothing is asked, but how many there are.
	wrong := api.Rule{In: ones(99), Out: []int{-1}, At: -5, Look: 77, X: api.Slot{Base: 1 << 40, Row: 9}}
	for _, kind := range []int{math.MinInt, -1, 0, 5, 6, 7, 8, 1 << 32, math.MaxInt} {
		l := []api.Lookup{rules(kind, slices.Repeat([]api.Rule{wrong}, api.MaxRules+1)...)}
		if !Formed(l, 50) || !Formed(l, -1) {
			t.Error("another kind", kind)
		}
		if Formed(slices.Repeat(l, api.MaxLookups+1), 50) || !Formed(slices.Repeat(l, api.MaxLookups), 50) {
			t.Error("many of another kind", kind)
		}
		l = append(l, rules(api.Context, look(ones(1), 0, 0)))
		if Formed(l, 50) {
			t.Error("a Context looks for another kind", kind)
		}
		l[1].Rules[0].Look = 1
		if !Formed(l, 50) {
			t.Error("a Context looks for itself", kind)
		}
	}
	for kind, rule := range good {
		l := []api.Lookup{rules(kind, slices.Repeat([]api.Rule{rule}, api.MaxRules+1)...), rules(api.Single)}
		if Formed(l, 50) {
			t.Error("too many rules", kind)
		}
		l[0].Rules = l[0].Rules[1:]
		if !Formed(l, 50) {
			t.Error("as many rules as may be", kind)
		}
		l = slices.Repeat(l, 6)
		if Formed(l[:api.MaxLookups+1], 50) || !Formed(l[:api.MaxLookups], 50) {
			t.Error("too many lookups", kind)
		}
	}
	// Rules behind the end are none.
	room := []api.Lookup{rules(api.Single), rules(api.Single, api.Rule{})}[:1]
	room[0].Rules = []api.Rule{put(ones(1), ones(1)), {}}[:1]
	if !Formed(room, 50) {
		t.Error("spare room")
	}
}

// TestOne is P20.2, of the kinds that put glyphs themselves.
func TestOne(t *testing.T) {
	marks := []bool{8: true}
	l := []api.Lookup{
		rules(api.Single, put([]int{1}, []int{5}), put([]int{1}, []int{6}), put([]int{8}, []int{7})),
		rules(api.Multiple, put([]int{1}, []int{2, 1, 3}), put([]int{2}, nil), put([]int{3}, ones(8)), put([]int{8}, []int{8, 8})),
		rules(api.Ligature, put([]int{1, 2, 3}, []int{9}), put([]int{1, 2}, []int{7}), put([]int{1, 2, 2}, []int{6}), put([]int{8, 1}, []int{4}), put([]int{1, 8}, []int{3})),
	}
	expectOne(t, l, 0, marks, []int{4, 1, 1}, 1, []int{4, 5, 1}, 2)
	expectOne(t, l, 0, marks, []int{8}, 0, []int{7}, 1)
	expectNothing(t, l, 0, marks, []int{4, 1, 1}, 0)
	expectOne(t, l, 1, marks, []int{4, 1, 4}, 1, []int{4, 2, 1, 3, 4}, 4)
	expectOne(t, l, 1, marks, []int{4, 2, 4}, 1, []int{4, 4}, 1)
	expectOne(t, l, 1, marks, []int{2}, 0, nil, 0)
	expectOne(t, l, 1, marks, []int{3, 4}, 0, append(ones(8), 4), 8)
	expectOne(t, l, 1, marks, []int{1, 8}, 1, []int{1, 8, 8}, 3)
	expectNothing(t, l, 1, marks, []int{4, 1, 4}, 2)
	// The first rule that is met, not the one that meets most.
	expectOne(t, l, 2, marks, []int{4, 1, 2, 3, 4}, 1, []int{4, 9, 4}, 2)
	expectOne(t, l, 2, marks, []int{1, 2, 2, 3}, 0, []int{7, 2, 3}, 1)
	expectOne(t, l, 2, marks, []int{8, 1, 2}, 0, []int{4, 2}, 1)
	expectOne(t, l, 2, marks, []int{1, 8, 2}, 0, []int{3, 2}, 1)
	expectNothing(t, l, 2, marks, []int{4, 1, 4, 2}, 1)
	expectNothing(t, l, 2, marks, []int{4, 1}, 1)
	for i := range l {
		l[i].Skip = true
	}
	// With Skip nothing is done at a mark, and marks within a ligature stay, behind it.
	expectNothing(t, l, 0, marks, []int{8}, 0)
	expectNothing(t, l, 1, marks, []int{1, 8}, 1)
	expectNothing(t, l, 2, marks, []int{8, 1, 2}, 0)
	expectOne(t, l, 0, marks, []int{8, 1, 8}, 1, []int{8, 5, 8}, 2)
	expectOne(t, l, 0, nil, []int{8}, 0, []int{7}, 1)
	expectOne(t, l, 1, marks, []int{1, 8}, 0, []int{2, 1, 3, 8}, 3)
	expectOne(t, l, 2, marks, []int{4, 1, 8, 8, 2, 8, 3, 8, 4}, 1, []int{4, 9, 8, 8, 8, 8, 4}, 2)
	expectNothing(t, l, 2, marks, []int{1, 8, 4}, 0)
}

// TestOneNothing is P20.2, where nothing can be done.
func TestOneNothing(t *testing.T) {
	fit := rules(api.Single, put([]int{1}, []int{5}))
	l := []api.Lookup{fit, rules(api.Kern, put([]int{1}, []int{5})), rules(0, put([]int{1}, []int{5})), rules(api.Multiple)}
	line := []int{1, 1, 1}
	for _, k := range append(outside(4), 1, 2, 3) {
		for _, at := range append(outside(3), 0, 1, 2) {
			expectNothing(t, l, k, nil, line, at)
		}
		expectNothing(t, nil, k, nil, line, 0)
	}
	for _, at := range outside(3) {
		expectNothing(t, l, 0, nil, line, at)
		expectNothing(t, l, 0, nil, []int{1, 1, 1, 1}[:3], at)
	}
	for _, at := range outside(0) {
		expectNothing(t, l, 0, nil, nil, at)
	}
	expectNothing(t, l, 0, nil, nil, 0)
	expectOne(t, l, 0, nil, line, 2, []int{1, 1, 5}, 3)
	// What isn't formed isn't done, though it be another lookup.
	for _, bad := range []api.Lookup{rules(api.Single, api.Rule{}), rules(api.Context, look(ones(1), 0, 1)), rules(api.Single, put([]int{0}, []int{65536})), rules(api.Single, put([]int{65536}, []int{0}))} {
		expectNothing(t, append(slices.Clone(l), bad), 0, nil, line, 0)
	}
	expectNothing(t, slices.Repeat([]api.Lookup{fit}, 11), 0, nil, line, 0)
	high := []api.Lookup{rules(api.Single, put([]int{65535}, []int{0}), put([]int{0}, []int{65535}))}
	expectOne(t, high, 0, nil, []int{65535}, 0, []int{0}, 1)
	expectOne(t, high, 0, nil, []int{0}, 0, []int{65535}, 1)
	// Numbers of a line that are no glyphs' are passed by, and stay.
	expectLine(t, high, 0, []bool{true}, []int{-1, 0, math.MinInt, 65536, math.MaxInt}, []int{-1, 65535, math.MinInt, 65536, math.MaxInt})
}

// TestContext is P20.2, of a Context.
func TestContext(t *testing.T) {
	marks := []bool{8: true}
	l := []api.Lookup{
		rules(api.Single, put([]int{1}, []int{5}), put([]int{8}, []int{6})),
		rules(api.Multiple, put([]int{1}, []int{1, 3, 3}), put([]int{2}, nil)),
		rules(api.Ligature, put([]int{1, 2, 3}, []int{9}), put([]int{2, 4}, []int{7})),
		rules(api.Context, look([]int{4, 1}, 1, 0), look([]int{4, 1}, 0, 0), look([]int{4, 4}, 1, 0), look([]int{4, 8}, 1, 0)),
		rules(api.Context, look([]int{4, 1, 4}, 1, 1), look([]int{2}, 0, 1), look([]int{4, 2}, 1, 1)),
		rules(api.Context, look([]int{1}, 0, 2), look([]int{4, 1}, 1, 2), look([]int{2, 4}, 0, 2)),
		rules(api.Context, look([]int{4, 1}, 0, 3), look([]int{5, 4}, 1, 3), look([]int{6}, 0, 6)),
	}
	// The first rule that is met is done, and at its place alone.
	expectOne(t, l, 3, marks, []int{1, 4, 1, 1}, 1, []int{1, 4, 5, 1}, 3)
	expectNothing(t, l, 3, marks, []int{1, 4, 1, 1}, 0)
	expectNothing(t, l, 3, marks, []int{1, 4, 1, 1}, 2)
	// It is met, though its lookup finds nothing to do: it is done, and goes on behind it.
	expectOne(t, l, 3, marks, []int{4, 4, 4}, 0, []int{4, 4, 4}, 2)
	// The place behind the last one goes along with the line.
	expectOne(t, l, 4, marks, []int{4, 1, 4, 1}, 0, []int{4, 1, 3, 3, 4, 1}, 5)
	expectOne(t, l, 4, marks, []int{5, 2, 2}, 1, []int{5, 2}, 1)
	expectOne(t, l, 4, marks, []int{4, 2, 5}, 0, []int{4, 5}, 1)
	expectOne(t, l, 5, marks, []int{2, 4, 4}, 0, []int{7, 4}, 1)
	// More is taken away than was met: not back over the place itself.
	expectOne(t, l, 5, marks, []int{6, 6, 1, 2, 3, 6}, 2, []int{6, 6, 9, 6}, 2)
	expectOne(t, l, 5, marks, []int{6, 4, 1, 2, 3, 6}, 1, []int{6, 4, 9, 6}, 1)
	// Contexts within Contexts: from the place that is looked at on.
	expectOne(t, l, 6, marks, []int{4, 1, 1}, 0, []int{4, 5, 1}, 2)
	expectOne(t, l, 6, marks, []int{5, 4, 1, 1}, 0, []int{5, 4, 5, 1}, 2)
	expectOne(t, l, 6, marks, []int{5, 4, 5}, 0, []int{5, 4, 5}, 2)
	expectOne(t, l, 6, marks, []int{6, 1}, 0, []int{6, 1}, 1)
	// Whether marks are passed over is each lookup's own.
	expectOne(t, l, 3, marks, []int{4, 8, 1}, 0, []int{4, 6, 1}, 2)
	l[0].Skip = true
	expectOne(t, l, 3, marks, []int{4, 8, 1}, 0, []int{4, 8, 1}, 2)
	l[3].Skip = true
	expectOne(t, l, 3, marks, []int{4, 8, 8, 1, 1}, 0, []int{4, 8, 8, 5, 1}, 4)
	expectNothing(t, l, 3, marks, []int{8, 4, 1}, 0)
	expectOne(t, l, 6, marks, []int{5, 4, 8, 1, 1}, 0, []int{5, 4, 8, 5, 1}, 2)
	expectNothing(t, l, 6, marks, []int{4, 8, 1, 1}, 0)
	l[4].Skip = true
	expectOne(t, l, 4, marks, []int{4, 8, 1, 8, 4, 1}, 0, []int{4, 8, 1, 3, 3, 8, 4, 1}, 7)
	l[5].Skip = true
	expectOne(t, l, 5, marks, []int{4, 8, 1, 2, 3, 6}, 0, []int{4, 8, 9, 6}, 1)
	expectOne(t, l, 5, marks, []int{4, 8, 1, 8, 2, 3, 6}, 0, []int{4, 8, 1, 8, 2, 3, 6}, 3)
}

// chain is that many Contexts, each of which does the next one at glyph 1, and then what is at the end.
func chain(contexts int, end api.Lookup) []api.Lookup {
	var l []api.Lookup
	for i := range contexts {
		l = append(l, rules(api.Context, look([]int{1}, 0, i+1)))
	}
	return append(l, end)
}

// TestNest: at most MaxNest lookups are under way within one another, the first one among them.
func TestNest(t *testing.T) {
	for contexts := range 10 {
		single := chain(contexts, rules(api.Single, put([]int{1}, []int{5})))
		multiple := chain(contexts, rules(api.Multiple, put([]int{1}, []int{2, 2, 2})))
		none := chain(contexts, rules(api.Multiple, put([]int{1}, nil)))
		if contexts < api.MaxNest {
			expectOne(t, single, 0, nil, []int{1, 1}, 0, []int{5, 1}, 1)
			expectOne(t, multiple, 0, nil, []int{1, 1}, 0, []int{2, 2, 2, 1}, 3)
			expectOne(t, none, 0, nil, []int{1, 1}, 0, []int{1}, 0)
			expectLine(t, none, 0, nil, []int{1, 4, 1, 1}, []int{4})
			continue
		}
		expectOne(t, single, 0, nil, []int{1, 1}, 0, []int{1, 1}, 1)
		expectOne(t, multiple, 0, nil, []int{1, 1}, 0, []int{1, 1}, 1)
		expectOne(t, none, 0, nil, []int{1, 1}, 0, []int{1, 1}, 1)
		expectOne(t, single, contexts-7, nil, []int{1, 1}, 0, []int{5, 1}, 1)
		expectOne(t, single, contexts-8, nil, []int{1, 1}, 0, []int{1, 1}, 1)
	}
	// One that goes along a line as it does itself: it comes as far as MaxNest lookups.
	along := []api.Lookup{rules(api.Context, look([]int{1, 1}, 1, 0), look([]int{1, 2}, 1, 1)), rules(api.Single, put([]int{2}, []int{5}))}
	expectOne(t, along, 0, nil, append(ones(7), 2), 0, append(ones(7), 5), 2)
	expectOne(t, along, 0, nil, append(ones(8), 2), 0, append(ones(8), 2), 2)
	itself := []api.Lookup{rules(api.Context, look([]int{1}, 0, 0))}
	expectOne(t, itself, 0, nil, []int{1, 1}, 0, []int{1, 1}, 1)
	expectLine(t, itself, 0, nil, ones(100), ones(100))
}

// TestLine is P20.3, where there is no error.
func TestLine(t *testing.T) {
	marks := []bool{8: true}
	l := []api.Lookup{
		rules(api.Single, put([]int{1}, []int{2}), put([]int{2}, []int{1})),
		rules(api.Multiple, put([]int{1}, []int{1, 1}), put([]int{2}, nil), put([]int{3}, []int{2})),
		rules(api.Ligature, put([]int{1, 1}, []int{1}), put([]int{2, 3}, []int{1})),
		skipping(rules(api.Ligature, put([]int{1, 2, 3}, []int{1}))),
		rules(api.Context, look([]int{1, 2, 3}, 1, 1), look([]int{3, 3}, 0, 5)),
		rules(api.Multiple, put([]int{3}, nil)),
		rules(api.Context, look([]int{1}, 0, 7)),
		rules(api.Ligature, put([]int{1, 2, 3}, []int{1})),
		rules(api.Anchor, put([]int{1}, []int{2})),
		rules(0, put([]int{1}, []int{2})),
	}
	for i, x := range []struct {
		look       int
		line, want []int
	}{
		{0, nil, nil},
		{0, []int{1, 2, 2, 3, 1}, []int{2, 1, 1, 3, 2}},
		{1, []int{1, 2, 2, 1, 4, 2}, []int{1, 1, 1, 1, 4}},
		{1, []int{3, 3, 2}, []int{2, 2}},
		{1, []int{2, 2, 2}, nil},
		// What is put isn't met again: it goes on behind it.
		{2, []int{1, 1, 1, 1, 1}, []int{1, 1, 1}},
		{2, []int{1, 2, 3}, []int{1, 1}},
		{2, []int{2, 3, 1}, []int{1, 1}},
		{3, []int{1, 8, 2, 8, 3, 8, 1, 2, 3}, []int{1, 8, 8, 8, 1}},
		{3, []int{8, 1, 2, 3}, []int{8, 1}},
		{4, []int{1, 2, 3, 3, 3}, []int{1, 3, 3}},
		// It goes on at the place itself, since the line has shrunk: what has come there is met.
		{6, []int{1, 2, 3, 2, 3, 2, 3, 4}, []int{1, 4}},
		{6, []int{1, 1, 2, 3}, []int{1, 1}},
		{7, []int{1, 2, 3, 2, 3}, []int{1, 2, 3}},
		{8, []int{1, 1}, []int{1, 1}},
		{9, []int{1, 1}, []int{1, 1}},
		{9, nil, nil},
	} {
		out, e := Line(l, x.look, marks, x.line)
		if e != api.OK || !slices.Equal(out, x.want) {
			t.Error(i, x, out, e)
		}
	}
	// A line may be as long as MaxText, at first and behind.
	expectLine(t, l, 0, marks, ones(100), slices.Repeat([]int{2}, 100))
	expectLine(t, l, 1, marks, ones(50), ones(100))
	expectLine(t, l, 8, marks, ones(100), ones(100))
}

// fives is that many glyphs 5, and then these.
func fives(n int, others ...int) []int {
	return append(slices.Repeat([]int{5}, n), others...)
}

// TestErrors is P20.3's errors, the first one where several apply.
func TestErrors(t *testing.T) {
	l := []api.Lookup{
		rules(api.Multiple, put([]int{1}, []int{1, 2}), put([]int{3}, nil), put([]int{4}, ones(8))),
		rules(api.Kern), rules(0),
		rules(api.Context, look([]int{1}, 0, 0), look([]int{3}, 0, 0), look([]int{4}, 0, 0)),
	}
	bad := append(slices.Clone(l), rules(api.Single, api.Rule{}))
	for k := range bad {
		for _, line := range [][]int{nil, ones(1), ones(101)} {
			expectError(t, bad, k, line, api.ErrForm)
		}
	}
	for k := range l {
		expectError(t, l, k, ones(101), api.ErrLong)
		expectError(t, l, k, fives(101), api.ErrLong)
		expectError(t, l, k, ones(1<<20), api.ErrLong)
		expectLine(t, l, k, nil, fives(100), fives(100))
	}
	for _, k := range outside(len(l)) {
		expectError(t, append(l[:3:3], rules(api.Single, api.Rule{})), k, nil, api.ErrForm)
		expectError(t, append(l[:3:3], rules(api.Single, api.Rule{})), k, ones(101), api.ErrForm)
		expectError(t, l, k, ones(101), api.ErrLong)
		expectError(t, l, k, ones(100), api.ErrNone)
		expectError(t, l, k, nil, api.ErrNone)
	}
	for _, k := range append(outside(0), 0) {
		expectError(t, nil, k, nil, api.ErrNone)
		expectError(t, nil, k, ones(101), api.ErrLong)
	}
	expectError(t, slices.Repeat([]api.Lookup{rules(0)}, 11), 0, ones(101), api.ErrForm)
	expectError(t, []api.Lookup{rules(api.Single, put([]int{1}, []int{65536}))}, 0, nil, api.ErrForm)
	// Too long is a line behind any place, though it would shrink further on.
	for _, k := range []int{0, 3} {
		expectError(t, l, k, ones(51), api.ErrLong)
		expectLine(t, l, k, nil, fives(98, 1), fives(98, 1, 2))
		expectError(t, l, k, fives(99, 1), api.ErrLong)
		expectError(t, l, k, fives(98, 1, 3), api.ErrLong)
		expectLine(t, l, k, nil, fives(98, 3, 1), fives(98, 1, 2))
		expectLine(t, l, k, nil, fives(92, 4), fives(92, ones(8)...))
		expectError(t, l, k, fives(93, 4), api.ErrLong)
	}
}

// TestAll is P20.3's last.
func TestAll(t *testing.T) {
	l := []api.Lookup{
		rules(api.Multiple, put([]int{1}, []int{1, 2}), put([]int{3}, nil)),
		rules(api.Single, put([]int{1}, []int{3}), put([]int{2}, []int{1})),
		rules(api.Ligature, put([]int{1, 2}, []int{3})),
		rules(api.Kern, put([]int{1}, []int{3})),
	}
	for i, x := range []struct {
		looks, line, want []int
		e                 api.Errno
	}{
		{[]int{0, 1}, []int{1, 4}, []int{3, 1, 4}, api.OK},
		{[]int{1, 0}, []int{1, 4}, []int{4}, api.OK},
		{[]int{0, 2, 0}, []int{1, 1, 4}, []int{4}, api.OK},
		{[]int{1, 1, 1}, []int{2, 2}, []int{3, 3}, api.OK},
		{[]int{3, 1, 3}, []int{2, 1}, []int{1, 3}, api.OK},
		{[]int{2}, nil, nil, api.OK},
		{nil, []int{1, 2}, []int{1, 2}, api.OK},
		{[]int{}, nil, nil, api.OK},
		{[]int{0, 0}, ones(25), slices.Repeat([]int{1, 2, 2}, 25), api.OK},
		// The first error, and nothing behind it.
		{[]int{9, 0}, ones(60), nil, api.ErrNone},
		{[]int{0, 9}, ones(60), nil, api.ErrLong},
		{[]int{0, 9}, ones(50), nil, api.ErrNone},
		{[]int{3, 0, 0, 0, 0}, ones(25), nil, api.ErrLong},
		{[]int{1, -1, 1}, ones(30), nil, api.ErrNone},
		{[]int{9}, ones(101), nil, api.ErrLong},
		{[]int{9, 1}, nil, nil, api.ErrNone},
	} {
		if out, e := All(l, x.looks, nil, x.line); e != x.e || !slices.Equal(out, x.want) {
			t.Error(i, out, e)
		}
	}
	// Marks are those of each.
	l = []api.Lookup{rules(api.Single, put([]int{1}, []int{8})), skipping(rules(api.Single, put([]int{8}, []int{2})))}
	for _, x := range []struct {
		marks []bool
		want  int
	}{{nil, 2}, {[]bool{8: true}, 8}, {[]bool{1: true}, 2}} {
		if out, e := All(l, []int{0, 1}, x.marks, []int{1}); e != api.OK || !slices.Equal(out, []int{x.want}) {
			t.Error(x, out, e)
		}
	}
}

// isMark is what chapter 19 says.
func isMark(marks []bool, glyph int) bool {
	return glyph >= 0 && glyph < len(marks) && marks[glyph]
}

// met is the places at which in is met at at: of those that aren't passed over the first ones; none, if they hold others.
func met(line []int, marks []bool, at int, in []int, skip bool) []int {
	places := []int{at}
	for i := at + 1; i < len(line) && len(places) < len(in); i++ {
		if !skip || !isMark(marks, line[i]) {
			places = append(places, i)
		}
	}
	for i, glyph := range in {
		if i == len(places) || line[places[i]] != glyph {
			return nil
		}
	}
	return places
}

// laid is the line anew, glyph by glyph: out at the first of the places, nothing at the others.
func laid(line, places, out []int) []int {
	var l []int
	for i, glyph := range line {
		if i == places[0] {
			l = append(l, out...)
		} else if !slices.Contains(places, i) {
			l = append(l, glyph)
		}
	}
	return l
}

// firstMet is the first rule of the lookup that is met at at, and the places; none, if there is none.
func firstMet(x api.Lookup, marks []bool, line []int, at int) (api.Rule, []int) {
	for _, rule := range x.Rules {
		if places := met(line, marks, at, rule.In, x.Skip); places != nil && !(x.Skip && isMark(marks, line[at])) {
			return rule, places
		}
	}
	return api.Rule{}, nil
}

// oneByWords is what the chapter says, by a loop down through the Contexts, of which just the first one tells where to go on.
func oneByWords(l []api.Lookup, k int, marks []bool, line []int, at int) ([]int, int, bool) {
	rule, places := firstMet(l[k], marks, line, at)
	if places == nil {
		return line, at, false
	}
	if l[k].Kind != api.Context {
		return laid(line, places, rule.Out), at + len(rule.Out), true
	}
	out, behind := line, places[len(places)-1]+1
	for under := 1; under < 8 && places != nil && l[k].Kind == api.Context; under++ {
		k = rule.Look
		rule, places = firstMet(l[k], marks, line, places[rule.At])
		if places != nil && l[k].Kind != api.Context {
			out = laid(line, places, rule.Out)
		}
	}
	return out, max(at, behind+len(out)-len(line)), true
}

// lineByWords is what the chapter says, place by place.
func lineByWords(l []api.Lookup, k int, marks []bool, line []int) ([]int, api.Errno) {
	for at := 0; at < len(line); {
		out, on, done := oneByWords(l, k, marks, line, at)
		if len(out) > 100 {
			return nil, api.ErrLong
		}
		if done && (on != at || len(out) < len(line)) {
			at = on
		} else {
			at++
		}
		line = out
	}
	return line, api.OK
}

// pick is from least to most glyphs from 0 to 4.
func pick(r *rand.Rand, least, most int) []int {
	var glyphs []int
	for range least + r.Intn(most-least+1) {
		glyphs = append(glyphs, r.Intn(5))
	}
	return glyphs
}

// lookups is up to 10 formed lookups, of all kinds.
func lookups(r *rand.Rand) []api.Lookup {
	l := make([]api.Lookup, 1+r.Intn(10))
	for i := range l {
		l[i] = api.Lookup{Kind: []int{1, 2, 3, 4, 4, 4}[r.Intn(6)], Skip: r.Intn(2) == 0}
		for range r.Intn(6) {
			var x api.Rule
			switch l[i].Kind {
			case api.Single:
				x = put(pick(r, 1, 1), pick(r, 1, 1))
			case api.Multiple:
				x = put(pick(r, 1, 1), pick(r, 0, 3))
			case api.Ligature:
				x = put(pick(r, 2, 3), pick(r, 1, 1))
			case api.Context:
				in := pick(r, 1, 3)
				x = look(in, r.Intn(len(in)), r.Intn(len(l)))
			}
			l[i].Rules = append(l[i].Rules, x)
		}
	}
	return l
}

// tell is marks of up to 6 glyphs.
func tell(r *rand.Rand) []bool {
	marks := make([]bool, r.Intn(7))
	for i := range marks {
		marks[i] = r.Intn(3) == 0
	}
	return marks
}

// TestAtRandom holds One, Line and All against the chapter's words.
func TestAtRandom(t *testing.T) {
	r := rand.New(rand.NewSource(1))
	did, long := [5]int{}, 0
	for range 10000 {
		l, marks, line := lookups(r), tell(r), pick(r, 0, 20)
		if !Formed(l, 5) {
			t.Fatal("not formed", l)
		}
		for k := range l {
			for at := range line {
				out, on, done := One(l, k, marks, line, at)
				wantOut, wantOn, wantDone := oneByWords(l, k, marks, line, at)
				if on != wantOn || done != wantDone || !slices.Equal(out, wantOut) {
					t.Fatal("One", l, k, marks, line, at, out, on, done, "want", wantOut, wantOn, wantDone)
				}
				if done {
					did[l[k].Kind]++
				}
			}
		}
		want, wantE := line, api.OK
		var looks []int
		for range r.Intn(15) {
			k := r.Intn(len(l))
			looks = append(looks, k)
			if wantE != api.OK {
				continue
			}
			before := want
			want, wantE = lineByWords(l, k, marks, before)
			if out, e := Line(l, k, marks, before); e != wantE || !slices.Equal(out, want) {
				t.Fatal("Line", l, k, marks, before, out, e, "want", want, wantE)
			}
		}
		if out, e := All(l, looks, marks, line); e != wantE || !slices.Equal(out, want) {
			t.Fatal("All", l, looks, marks, line, out, e, "want", want, wantE)
		}
		if wantE == api.ErrLong {
			long++
		}
	}
	if slices.Min(did[1:]) < 4000 || long < 100 {
		t.Error("done", did, "too long", long)
	}
}

// TestWhatFollows is P20.4.
func TestWhatFollows(t *testing.T) {
	r := rand.New(rand.NewSource(2))
	for range 10000 {
		l, marks, line := lookups(r), tell(r), pick(r, 0, 100)
		for k := range l {
			out, e := Line(l, k, marks, line)
			if e != api.OK && e != api.ErrLong {
				t.Fatal(e)
			}
			switch l[k].Kind {
			case api.Single:
				if e != api.OK || len(out) != len(line) {
					t.Fatal("a Single", l[k], line, out, e)
				}
			case api.Ligature:
				if e != api.OK || len(out) > len(line) {
					t.Fatal("a Ligature", l[k], line, out, e)
				}
			}
		}
	}
}

// TestAnything: whatever the arguments are, calls end, and beside an error there is nothing.
func TestAnything(t *testing.T) {
	r := rand.New(rand.NewSource(3))
	number := func() int {
		return []int{math.MinInt, -1, 0, 0, 1, 1, 2, 3, 8, 65535, 65536, math.MaxInt}[r.Intn(12)]
	}
	numbers := func() []int {
		var l []int
		for range r.Intn(4) {
			l = append(l, number())
		}
		return l
	}
	for range 100000 {
		var l []api.Lookup
		for range r.Intn(4) {
			x := api.Lookup{Kind: r.Intn(6), Skip: r.Intn(2) == 0}
			for range r.Intn(3) {
				x.Rules = append(x.Rules, api.Rule{In: numbers(), Out: numbers(), At: number(), Look: number()})
			}
			l = append(l, x)
		}
		line, marks, k, at := numbers(), tell(r), number(), number()
		Formed(l, number())
		if out, on, ok := One(l, k, marks, line, at); !ok && (on != at || !slices.Equal(out, line)) {
			t.Fatal("One", l, k, marks, line, at, out, on)
		}
		if out, e := Line(l, k, marks, line); e != api.OK && len(out) > 0 {
			t.Fatal("Line", l, k, marks, line, out, e)
		}
		if out, e := All(l, numbers(), marks, line); e != api.OK && len(out) > 0 {
			t.Fatal("All", l, marks, line, out, e)
		}
	}
}

// TestGreat: One takes lines of any length, and as many of all as may be end soon.
func TestGreat(t *testing.T) {
	const length = 1 << 20
	line := slices.Repeat([]int{8}, length)
	line[0], line[length-1] = 1, 2
	marks := []bool{8: true}
	l := []api.Lookup{skipping(rules(api.Ligature, put([]int{1, 2}, []int{9})))}
	if out, on, ok := One(l, 0, marks, line, 0); !ok || on != 1 || len(out) != length-1 || out[0] != 9 || out[length-2] != 8 {
		t.Error("ligature", len(out), on, ok)
	}
	rule := put([]int{1}, ones(8))
	l = []api.Lookup{rules(api.Multiple, slices.Repeat([]api.Rule{put([]int{2}, nil)}, 39)...), rules(api.Multiple, rule)}
	if out, on, ok := One(l, 1, nil, ones(length), length-1); !ok || on != length+7 || len(out) != length+7 {
		t.Error("multiple", len(out), on, ok)
	}
	deep := rules(api.Context, slices.Repeat([]api.Rule{look(append(ones(7), 2), 0, 0)}, api.MaxRules-1)...)
	deep.Rules = append(deep.Rules, look(ones(8), 0, 0))
	many := slices.Repeat([]int{0}, 1000)
	if out, e := All(slices.Repeat([]api.Lookup{deep}, api.MaxLookups), many, nil, ones(100)); e != api.OK || !slices.Equal(out, ones(100)) {
		t.Error("deep", len(out), e)
	}
	huge := make([]api.Rule, length)
	if Formed([]api.Lookup{rules(api.Single, huge...)}, 9) || Formed(make([]api.Lookup, length), 9) || Formed([]api.Lookup{rules(api.Single, put(line, line))}, 9) {
		t.Error("huge")
	}
}

// TestMemory: what is handed in is left as it is, its spare room too, and what is answered is new.
func TestMemory(t *testing.T) {
	marks := []bool{8: true}
	in, out := []int{1, 2, 7, 7}[:2], []int{9, 7, 7}[:1]
	l := []api.Lookup{
		rules(api.Ligature, put(in, out)), rules(api.Single, put(in[:1], out)), rules(api.Multiple, put(in[:1], []int{3, 3, 7}[:2]), put(in[1:2], nil)),
		rules(api.Context, look(in, 0, 0)), rules(api.Context, look(in, 1, 2)), rules(api.Kern), rules(api.Context, look([]int{4}, 0, 1)),
		skipping(rules(api.Single, put(in[:1], out))), rules(api.Context, look([]int{4}, 0, 8)),
	}
	room := []int{4, 1, 2, 8, 1, 2, 6, 6, 6, 6, 6, 6}
	line, whole := room[:6], slices.Clone(room)
	answers := func(k, at int) [][]int {
		one, _, _ := One(l, k, marks, line, at)
		through, _ := Line(l, k, marks, line)
		all, _ := All(l, []int{k}, marks, line)
		none, _ := All(l, nil, marks, line)
		return [][]int{one, through, all, none}
	}
	for k := -1; k <= len(l); k++ {
		for at := -1; at <= len(line); at++ {
			first, second := answers(k, at), answers(k, at)
			for _, x := range first {
				clear(x[:cap(x)])
			}
			for i, x := range answers(k, at) {
				if !slices.Equal(x, second[i]) {
					t.Error("shared", k, at, i, x, second[i])
				}
			}
			if !slices.Equal(room, whole) || !slices.Equal(in[:4], []int{1, 2, 7, 7}) || !slices.Equal(out[:3], []int{9, 7, 7}) || !slices.Equal(marks, []bool{8: true}) {
				t.Fatal("what was handed in has changed", k, at, room, in[:4], out[:3])
			}
		}
	}
}

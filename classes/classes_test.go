package classes

import (
	"math"
	"math/rand"
	"slices"
	"testing"

	"foundry/api"
)

// marked is marks, as long as they need be, that has these glyphs for marks.
func marked(glyphs ...int) []bool {
	var marks []bool
	for _, glyph := range glyphs {
		for len(marks) <= glyph {
			marks = append(marks, false)
		}
		marks[glyph] = true
	}
	return marks
}

// outside is numbers that are no places of a line of length glyphs.
func outside(length int) []int {
	return []int{math.MinInt, math.MinInt + 1, -1 << 32, -2, -1, length, length + 1, 1 << 32, math.MaxInt - 1, math.MaxInt}
}

// isMark is what the chapter says, for marks that are glyphs' numbers.
func isMark(marks []bool, glyph int) bool {
	for i, mark := range marks {
		if i == glyph {
			return mark
		}
	}
	return false
}

// next is what the chapter says: the least place behind at that will do.
func next(line []int, marks []bool, at int, skip bool) int {
	for i := range line {
		if at >= 0 && at < len(line) && i > at && (!skip || !isMark(marks, line[i])) {
			return i
		}
	}
	return api.None
}

// back is what the chapter says: the greatest place ahead of at that will do.
func back(line []int, marks []bool, at int) int {
	found := api.None
	for i := range line {
		if at < len(line) && i < at && !isMark(marks, line[i]) {
			found = i
		}
	}
	return found
}

// meet is what the chapter says, by recursion: the first one at at, the others from the next place on.
func meet(line []int, marks []bool, at int, in []int, skip bool) []int {
	if len(in) == 0 || at < 0 || at >= len(line) || line[at] != in[0] {
		return nil
	}
	if len(in) == 1 {
		return []int{at}
	}
	others := meet(line, marks, next(line, marks, at, skip), in[1:], skip)
	if others == nil {
		return nil
	}
	return append([]int{at}, others...)
}

// put is what the chapter says, glyph by glyph.
func put(line []int, from, to int, out []int) []int {
	if !(0 <= from && from <= to && to <= len(line)) {
		from, to, out = 0, 0, nil
	}
	var whole []int
	for i := range len(line) + 1 {
		if i == from {
			whole = append(whole, out...)
		}
		if i < len(line) && (i < from || i >= to) {
			whole = append(whole, line[i])
		}
	}
	return whole
}

func expectMet(t *testing.T, line []int, marks []bool, at int, in []int, skip bool, want ...int) {
	t.Helper()
	if l, ok := Meet(line, marks, at, in, skip); !slices.Equal(l, want) || ok != (len(want) > 0) {
		t.Errorf("Meet(%v, %v, %d, %v, %v): %v %v, want %v", line, marks, at, in, skip, l, ok, want)
	}
}

func expectPut(t *testing.T, line []int, from, to int, out []int, want ...int) {
	t.Helper()
	if l := Put(line, from, to, out); !slices.Equal(l, want) {
		t.Errorf("Put(%v, %d, %d, %v): %v, want %v", line, from, to, out, l, want)
	}
}

// TestExample is the chapter's.
func TestExample(t *testing.T) {
	line, marks := []int{5, 9, 6}, marked(9)
	expectMet(t, line, marks, 0, []int{5, 6}, true, 0, 2)
	expectMet(t, line, marks, 0, []int{5, 6}, false)
}

// TestMark is the first of P19.1.
func TestMark(t *testing.T) {
	marks := marked(0, 2, 9)
	for glyph := -3; glyph < 20; glyph++ {
		if Mark(marks, glyph) != (glyph == 0 || glyph == 2 || glyph == 9) {
			t.Error(glyph)
		}
	}
	for _, glyph := range outside(10) {
		// The first list's spare room holds true, which it doesn't say of anything.
		if Mark(slices.Repeat([]bool{true}, 20)[:10], glyph) || Mark(nil, glyph) || Mark([]bool{}, glyph) {
			t.Error("not told of", glyph)
		}
	}
	if Mark(nil, 0) {
		t.Error("no marks")
	}
}

// TestNextAndBack are the others of P19.1.
func TestNextAndBack(t *testing.T) {
	line, marks := []int{9, 5, 9, 9, -1, 400, 9}, marked(9)
	for at, want := range []struct{ next, skip, back int }{
		{1, 1, -1}, {2, 4, -1}, {3, 4, 1}, {4, 4, 1}, {5, 5, 1}, {6, -1, 4}, {-1, -1, 5},
	} {
		if n := Next(line, marks, at, false); n != want.next {
			t.Error("Next", at, n)
		}
		if n := Next(line, marks, at, true); n != want.skip {
			t.Error("Next with skip", at, n)
		}
		if n := Back(line, marks, at); n != want.back {
			t.Error("Back", at, n)
		}
	}
	for _, line := range [][]int{nil, {}, {5}, {9}, {5, 5, 5}, {9, 9}} {
		for _, at := range outside(len(line)) {
			if n, m, o := Next(line, marks, at, false), Next(line, marks, at, true), Back(line, marks, at); n != api.None || m != api.None || o != api.None {
				t.Error("no place", line, at, n, m, o)
			}
		}
	}
	// A line's spare room is none of its places.
	room := []int{5, 6, 7}[:1]
	if n, m := Next(room, marks, 0, false), Next(room, marks, 0, true); n != api.None || m != api.None {
		t.Error("spare room", n, m)
	}
}

// TestMeet is P19.2.
func TestMeet(t *testing.T) {
	line, marks := []int{5, 9, 6, 9, 9, 5, 6}, marked(9)
	expectMet(t, line, marks, 0, []int{5}, false, 0)
	expectMet(t, line, marks, 0, []int{5}, true, 0)
	expectMet(t, line, marks, 2, []int{6, 5, 6}, true, 2, 5, 6)
	expectMet(t, line, marks, 0, []int{5, 6, 5, 6}, true, 0, 2, 5, 6)
	expectMet(t, line, marks, 0, line, false, 0, 1, 2, 3, 4, 5, 6)
	expectMet(t, line, nil, 0, line, true, 0, 1, 2, 3, 4, 5, 6)
	// A mark is met at at itself, but with skip nowhere behind it.
	expectMet(t, line, marks, 1, []int{9}, true, 1)
	expectMet(t, line, marks, 3, []int{9, 5}, true, 3, 5)
	expectMet(t, line, marks, 3, []int{9, 9}, true)
	expectMet(t, line, marks, 3, []int{9, 9}, false, 3, 4)
	expectMet(t, line, marks, 0, []int{5, 9}, true)
	expectMet(t, line, marks, 0, []int{5, 9}, false, 0, 1)
	// The line is at its end too early.
	expectMet(t, line, marks, 5, []int{5, 6, 5}, true)
	expectMet(t, line, marks, 5, []int{5, 6, 5}, false)
	expectMet(t, line[:1], marks, 0, []int{5, 6}, true)
	expectMet(t, line[:2], marks, 0, []int{5, 9, 6}, false)
	// The next place is the nearest one: nothing further on is looked for.
	expectMet(t, line, marks, 0, []int{5, 5}, true)
	expectMet(t, line, marks, 0, []int{6}, true)
	// Glyphs that are none stand for themselves.
	expectMet(t, []int{-1, math.MaxInt, math.MinInt}, marks, 0, []int{-1, math.MaxInt, math.MinInt}, true, 0, 1, 2)
	for _, skip := range []bool{false, true} {
		for _, at := range outside(len(line)) {
			expectMet(t, line, marks, at, []int{5}, skip)
			expectMet(t, line, marks, at, nil, skip)
			expectMet(t, nil, nil, at, []int{5}, skip)
		}
		for at := range line {
			expectMet(t, line, marks, at, nil, skip)
			expectMet(t, line, marks, at, []int{}, skip)
		}
		expectMet(t, nil, nil, 0, []int{5}, skip)
		expectMet(t, nil, nil, 0, nil, skip)
	}
}

// TestPut is P19.3.
func TestPut(t *testing.T) {
	line := []int{5, 9, 6, 9}
	expectPut(t, line, 1, 3, []int{7}, 5, 7, 9)
	expectPut(t, line, 0, 4, []int{1, 2, 3, 4, 5, 6}, 1, 2, 3, 4, 5, 6)
	expectPut(t, line, 0, 4, nil)
	expectPut(t, line, 1, 2, nil, 5, 6, 9)
	expectPut(t, line, 0, 0, []int{-7}, -7, 5, 9, 6, 9)
	expectPut(t, line, 2, 2, []int{7, 8}, 5, 9, 7, 8, 6, 9)
	expectPut(t, line, 4, 4, []int{7, 8}, 5, 9, 6, 9, 7, 8)
	expectPut(t, line, 2, 2, nil, line...)
	expectPut(t, nil, 0, 0, []int{7}, 7)
	expectPut(t, []int{}, 0, 0, nil)
	// The line itself, where the numbers aren't its own, or fall; its spare room is none of it.
	room := []int{5, 9, 6, 9, 1, 2, 3}[:4]
	for _, c := range []struct{ from, to int }{
		{-1, 0}, {-1, 4}, {-1, -1}, {0, -1}, {3, 1}, {4, 3}, {1, 0}, {0, 5}, {4, 5}, {5, 5}, {5, 4}, {5, 7},
		{math.MinInt, math.MaxInt}, {math.MaxInt, math.MinInt}, {math.MinInt, 0}, {0, math.MaxInt}, {0, math.MinInt}, {math.MaxInt, math.MaxInt}, {math.MinInt, math.MinInt},
	} {
		expectPut(t, room, c.from, c.to, []int{7}, line...)
		expectPut(t, nil, c.from, c.to, []int{7})
	}
}

// pick is up to most glyphs from -1 to 4.
func pick(r *rand.Rand, most int) []int {
	var glyphs []int
	for range r.Intn(most + 1) {
		glyphs = append(glyphs, r.Intn(6)-1)
	}
	return glyphs
}

// tell is marks of up to 6 glyphs.
func tell(r *rand.Rand) []bool {
	marks := make([]bool, r.Intn(7))
	for i := range marks {
		marks[i] = r.Intn(3) == 0
	}
	return marks
}

// like is glyphs of the line from at on, mostly those that are met there.
func like(r *rand.Rand, line []int, marks []bool, at int, skip bool) []int {
	var in []int
	for at != api.None && len(in) < 8 && r.Intn(6) > 0 {
		in = append(in, line[at])
		at = next(line, marks, at, skip)
	}
	if len(in) > 0 && r.Intn(4) == 0 {
		in[r.Intn(len(in))] = r.Intn(6) - 1
	}
	return in
}

// TestAtRandom holds each call against the chapter's words.
func TestAtRandom(t *testing.T) {
	r := rand.New(rand.NewSource(1))
	met, lost := 0, 0
	for range 50000 {
		line, marks, skip := pick(r, 10), tell(r), r.Intn(2) == 0
		for glyph := -2; glyph < 8; glyph++ {
			if Mark(marks, glyph) != isMark(marks, glyph) {
				t.Fatal(marks, glyph)
			}
		}
		for at := -2; at < len(line)+2; at++ {
			if n := Next(line, marks, at, skip); n != next(line, marks, at, skip) {
				t.Fatal("Next", line, marks, at, skip, n)
			}
			if n := Back(line, marks, at); n != back(line, marks, at) {
				t.Fatal("Back", line, marks, at, n)
			}
		}
		for at := range line {
			in := like(r, line, marks, at, skip)
			want := meet(line, marks, at, in, skip)
			expectMet(t, line, marks, at, in, skip, want...)
			if want == nil {
				lost++
			} else {
				met++
			}
		}
		from, to, out := r.Intn(14)-2, r.Intn(14)-2, pick(r, 3)
		expectPut(t, line, from, to, out, put(line, from, to, out)...)
	}
	if met < 50000 || lost < 50000 {
		t.Error("met", met, "lost", lost)
	}
}

// TestWhatFollows is P19.4.
func TestWhatFollows(t *testing.T) {
	r := rand.New(rand.NewSource(1))
	for range 50000 {
		line, marks, skip := pick(r, 12), tell(r), r.Intn(2) == 0
		if len(line) == 0 {
			continue
		}
		at := r.Intn(len(line))
		in := like(r, line, marks, at, skip)
		places, ok := Meet(line, marks, at, in, skip)
		if !ok {
			continue
		}
		if len(places) != len(in) || places[0] != at {
			t.Fatal(line, marks, at, in, skip, places)
		}
		for i, place := range places {
			if place < 0 || place >= len(line) || line[place] != in[i] {
				t.Fatal("not what was asked for", line, at, in, places)
			}
			if i == 0 {
				continue
			}
			if place <= places[i-1] || !skip && place != places[i-1]+1 || skip && isMark(marks, line[place]) {
				t.Fatal("no next place", line, marks, at, in, skip, places)
			}
			for between := places[i-1] + 1; between < place; between++ {
				if !isMark(marks, line[between]) {
					t.Fatal("more than marks between", line, marks, at, in, places)
				}
			}
		}
	}
}

// TestLongLines: what is long is gone through once.
func TestLongLines(t *testing.T) {
	const length = 1 << 20
	line, marks := slices.Repeat([]int{9}, length), marked(9)
	if Next(line, marks, 0, true) != api.None || Back(line, marks, length-1) != api.None || Back(line, nil, length-1) != length-2 {
		t.Error("marks alone")
	}
	expectMet(t, line, marks, 0, []int{9, 5}, true)
	if places, ok := Meet(line, nil, 0, line, true); !ok || len(places) != length || places[length-1] != length-1 {
		t.Error("the whole line", len(places), ok)
	}
	line[length-1] = 5
	expectMet(t, line, marks, 0, []int{9, 5}, true, 0, length-1)
	if l := Put(line, 1, length-1, line); len(l) != length+2 || l[length] != 5 || l[length+1] != 5 {
		t.Error("the line within itself", len(l))
	}
}

// TestMemory: what is handed in is left as it is, its spare room too, and what is answered is new.
func TestMemory(t *testing.T) {
	room, marks, more := []int{5, 9, 6, 9, 1, 2, 3}, marked(9), []int{7, 8, 4, 4}
	whole, told, others := slices.Clone(room), slices.Clone(marks), slices.Clone(more)
	line, out := room[:4], more[:2]
	for from := -1; from < 6; from++ {
		for to := -1; to < 6; to++ {
			for _, out := range [][]int{nil, out, line, line[1:3]} {
				first, second := Put(line, from, to, out), Put(line, from, to, out)
				want := put(line, from, to, out)
				clear(first[:cap(first)])
				if !slices.Equal(second, want) || !slices.Equal(room, whole) || !slices.Equal(more, others) {
					t.Fatal("shared", from, to, out, second, room, more)
				}
			}
		}
	}
	in := []int{5, 6, 3}[:2]
	first, _ := Meet(line, marks, 0, in, true)
	second, _ := Meet(line, marks, 0, in, true)
	clear(first[:cap(first)])
	if !slices.Equal(second, []int{0, 2}) || !slices.Equal(in[:3], []int{5, 6, 3}) {
		t.Error("two answers share places", second, in)
	}
	Mark(marks, 9)
	Next(line, marks, 0, true)
	Back(line, marks, 3)
	if !slices.Equal(room, whole) || !slices.Equal(marks, told) {
		t.Error("what was handed in has changed", room, marks)
	}
}

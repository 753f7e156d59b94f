package font

import (
	"bytes"
	"math"
	"math/rand"
	"reflect"
	"slices"
	"testing"

	"foundry/api"
	"foundry/axes"
	"foundry/bend"
	"foundry/chars"
	"foundry/feats"
	"foundry/glyphs"
	"foundry/metrics"
	"foundry/sfnt"
	"foundry/store"
	"foundry/strokes"
)

// flat is a number that doesn't change.
func flat(n int) api.Slot { return api.Slot{Base: n, Row: api.None} }

// put is a rule that puts out in the place of in.
func put(in []int, out ...int) api.Rule { return api.Rule{In: in, Out: out} }

// move is a rule that moves in.
func move(x, y, w api.Slot, in ...int) api.Rule { return api.Rule{In: in, X: x, Y: y, W: w} }

// least is the chapter's font: no axes, one glyph, no contours.
func least() api.Font {
	return api.Font{Glyphs: []api.Glyph{{Advance: flat(0)}}}
}

// full is a formed font of two axes that has something of all there is.
func full() api.Font {
	hill, slope := api.Tent{Peak: 8192, End: 16384}, api.Tent{Start: 8192, Peak: 16384, End: 16384}
	below := api.Tent{Start: -16384, Peak: -16384}
	return api.Font{
		Axes:   []api.Axis{{Tag: "wght", Least: 100 << 16, Usual: 400 << 16, Most: 900 << 16}, {Tag: "wdth", Least: 50 << 16, Usual: 100 << 16, Most: 100 << 16}},
		Bends:  [][]api.Pair{{{From: -16384, To: -16384}, {}, {From: 8192, To: 4096}, {From: 16384, To: 16384}}, nil},
		Store:  api.Store{Regions: [][]api.Tent{{hill, {}}, {slope, below}}, Rows: [][]int{{100, -7}, {0, 32767}, {-32768, 1}}},
		Glyphs: letters(hill, slope, below),
		Metrics: []api.Metric{
			{Tag: "hasc", Slot: api.Slot{Base: 800, Row: 2}}, {Tag: "hdsc", Slot: flat(-200)},
		},
		Drawings: [][]api.Step{
			{{Do: api.Go, Args: []api.Slot{flat(1), {Base: 2}}}, {Do: api.Line, Args: []api.Slot{flat(3), flat(-4)}}, {Do: api.Draw, Args: []api.Slot{flat(1)}}},
			{{Do: api.Curve, Args: []api.Slot{flat(1), flat(2), flat(3), {Base: 4, Row: 1}, flat(5), flat(6)}}},
			nil,
		},
		Ranges: []api.Range{{From: 'A', To: 'B', Glyph: 1}, {From: 1114111, To: 1114111, Glyph: 5}},
		Looks: []api.Lookup{
			{Kind: api.Single, Rules: []api.Rule{put([]int{1}, 5), put([]int{2}, 0)}},
			{Kind: api.Multiple, Rules: []api.Rule{put([]int{1}, 1, 3), put([]int{5})}},
			{Kind: api.Ligature, Skip: true, Rules: []api.Rule{put([]int{1, 2}, 4)}},
			{Kind: api.Context, Rules: []api.Rule{{In: []int{1, 2, 2}, At: 2, Look: 3}}},
			{Kind: api.Move, Rules: []api.Rule{move(flat(-1), api.Slot{Base: 2, Row: 1}, api.Slot{Base: -32768, Row: 2}, 1)}},
			{Kind: api.Kern, Skip: true, Rules: []api.Rule{move(flat(0), flat(0), api.Slot{Base: -50}, 1, 2)}},
			{Kind: api.Anchor, Rules: []api.Rule{move(flat(10), flat(700), flat(0), 1, 3)}},
		},
		Features: []api.Feature{{Tag: "liga", Looks: []int{2, 3}}, {Tag: "kern", Looks: []int{4, 5, 6}}, {Tag: "none"}},
		Swaps: []api.Swap{
			{Conds: []api.Cond{{Axis: 0, Least: 8192, Most: 16384}, {Axis: 1, Least: -16384, Most: -1}}, Feature: 0, Looks: []int{0, 1}},
			{Feature: 2, Looks: []int{6}},
		},
	}
}

// letters is the glyphs of full.
func letters(hill, slope, below api.Tent) []api.Glyph {
	return []api.Glyph{
		{Advance: flat(100)},
		{
			Outline: api.Outline{Contours: [][]api.Point{{{X: 10, On: true}, {X: 10, Y: 300, On: true}, {X: -500, Y: 7}}, {{X: 1, Y: 1, On: true}}}},
			Tuples: []api.Tuple{
				{Region: []api.Tent{hill, below}, All: true, DX: []int{1, 2, 3, 4}, DY: []int{-1, 0, 300, -300}},
				{Region: []api.Tent{{}, below}, Points: []int{0, 2}, DX: []int{5, 6}, DY: []int{0, 0}},
			},
			Advance: api.Slot{Base: 500},
		},
		{
			Outline: api.Outline{Parts: []api.Part{{Glyph: 1, DX: 5, DY: -6}, {Glyph: 0}}},
			Tuples:  []api.Tuple{{Region: []api.Tent{slope, {}}, Points: []int{1}, DX: []int{-9}, DY: []int{9}}},
			Advance: api.Slot{Base: 600, Row: 1},
		},
		{Outline: api.Outline{Contours: [][]api.Point{{{X: 2, Y: 3}}}}, Advance: flat(0), Mark: true},
		{Outline: api.Outline{Parts: []api.Part{{Glyph: 2}, {Glyph: 3, DX: 1, DY: 1}}}, Advance: api.Slot{Base: -1, Row: 2}},
		{Tuples: []api.Tuple{{Region: []api.Tent{hill, hill}, All: true}}, Advance: flat(32767)},
	}
}

// wide is a formed font of so many axes, one glyph, and nothing else.
func wide(n int) api.Font {
	f := least()
	for i := range n {
		f.Axes = append(f.Axes, api.Axis{Tag: "axi" + string(rune('a'+i)), Least: -i, Most: i})
	}
	return f
}

// changed is full, changed.
func changed(change func(f *api.Font)) api.Font {
	f := full()
	change(&f)
	return f
}

// many is so many of them.
func many[T any](n int, x T) []T { return slices.Repeat([]T{x}, n) }

// one is a case by its name.
type one struct {
	name string
	font api.Font
}

// formedOnes are formed fonts, at the edges too.
func formedOnes() []one {
	l := []one{{"the least", least()}, {"the full", full()}}
	add := func(name string, f api.Font) { l = append(l, one{name, f}) }
	for n := range 5 {
		f := wide(n)
		add("axes", f)
		f.Bends = make([][]api.Pair, n)
		add("axes, and bends of no pairs", f)
	}
	add("no bends", changed(func(f *api.Font) { f.Bends = nil }))
	add("no lookups", changed(func(f *api.Font) { f.Looks, f.Features, f.Swaps = nil, nil, nil }))
	add("no features", changed(func(f *api.Font) { f.Features, f.Swaps = nil, nil }))
	add("no swaps", changed(func(f *api.Font) { f.Swaps = nil }))
	add("no metrics", changed(func(f *api.Font) { f.Metrics = nil }))
	add("no drawings", changed(func(f *api.Font) { f.Drawings = nil }))
	add("no ranges", changed(func(f *api.Font) { f.Ranges = nil }))
	add("100 glyphs", changed(func(f *api.Font) {
		f.Glyphs = append(f.Glyphs, many(94, f.Glyphs[1])...)
		f.Ranges[1].Glyph, f.Looks[0].Rules[0].Out[0], f.Looks[5].Rules[0].In[1] = 99, 99, 99
	}))
	add("10 lookups, the first and the last kind without rules", changed(func(f *api.Font) {
		f.Looks = append(f.Looks, api.Lookup{Kind: 1}, api.Lookup{Kind: 7, Skip: true}, f.Looks[0])
		f.Features[0].Looks[1], f.Swaps[0].Looks[1], f.Looks[3].Rules[0].Look = 9, 9, 9
	}))
	add("40 rules", changed(func(f *api.Font) { f.Looks[3].Rules = many(40, f.Looks[3].Rules[0]) }))
	add("10 features", changed(func(f *api.Font) { f.Features = many(10, f.Features[1]) }))
	add("6 swaps", changed(func(f *api.Font) { f.Swaps = many(6, f.Swaps[0]) }))
	add("a store of no use", changed(func(f *api.Font) { f.Store.Rows = append(f.Store.Rows, many(397, []int{1, 1})...) }))
	return l
}

// unformedOnes are fonts of which one thing is wrong.
func unformedOnes() []one {
	l := []one{{"the zero one", api.Font{}}, {"5 axes", wide(5)}}
	for _, x := range []struct {
		name   string
		change func(f *api.Font)
	}{
		{"an axis' tag", func(f *api.Font) { f.Axes[0].Tag = "wei" }},
		{"two axes of one tag", func(f *api.Font) { f.Axes[1].Tag = "wght" }},
		{"an axis' values", func(f *api.Font) { f.Axes[0].Least = 500 << 16 }},
		{"too few axes", func(f *api.Font) { f.Axes, f.Bends = f.Axes[:1], nil }},
		{"too few bends", func(f *api.Font) { f.Bends = f.Bends[:1] }},
		{"too many bends", func(f *api.Font) { f.Bends = append(f.Bends, nil) }},
		{"a bend", func(f *api.Font) { f.Bends[0][1].To = 1 }},
		{"a bend that isn't the first", func(f *api.Font) { f.Bends[1] = []api.Pair{{}} }},
		{"too few tents", func(f *api.Font) { f.Store.Regions[1] = f.Store.Regions[1][:1] }},
		{"a tent", func(f *api.Font) { f.Store.Regions[1][0].Start = -1 }},
		{"too few numbers of a row", func(f *api.Font) { f.Store.Rows[2] = []int{1} }},
		{"a row's number", func(f *api.Font) { f.Store.Rows[2][1] = 32768 }},
		{"41 regions", func(f *api.Font) { f.Store.Regions = many(41, f.Store.Regions[0]); f.Store.Rows = nil }},
		{"no glyphs", func(f *api.Font) { *f = api.Font{Axes: f.Axes} }},
		{"101 glyphs", func(f *api.Font) { f.Glyphs = append(f.Glyphs, many(95, f.Glyphs[0])...) }},
		{"an outline", func(f *api.Font) { f.Glyphs[3].Outline.Contours[0][0].X = 32768 }},
		{"a tuple", func(f *api.Font) { f.Glyphs[2].Tuples[0].Points[0] = 2 }},
		{"a tuple's region", func(f *api.Font) { f.Glyphs[2].Tuples[0].Region = f.Glyphs[2].Tuples[0].Region[:1] }},
		{"an advance's row", func(f *api.Font) { f.Glyphs[5].Advance.Row = 3 }},
		{"a part of itself", func(f *api.Font) { f.Glyphs[4].Outline.Parts[1].Glyph = 4 }},
		{"a part that isn't there", func(f *api.Font) { f.Glyphs[4].Outline.Parts[1].Glyph = 6 }},
		{"two metrics of one tag", func(f *api.Font) { f.Metrics[1].Tag = "hasc" }},
		{"a metric's row", func(f *api.Font) { f.Metrics[1].Slot.Row = 3 }},
		{"11 metrics", func(f *api.Font) { f.Metrics = many(11, f.Metrics[0]) }},
		{"a step", func(f *api.Font) { f.Drawings[1][0].Do = 5 }},
		{"a step's row", func(f *api.Font) { f.Drawings[1][0].Args[5].Row = 3 }},
		{"a drawing that isn't there", func(f *api.Font) { f.Drawings[0][2].Args[0].Base = 3 }},
		{"21 drawings", func(f *api.Font) { f.Drawings = make([][]api.Step, 21) }},
		{"a range's glyph", func(f *api.Font) { f.Ranges[1].Glyph = 6 }},
		{"ranges that don't rise", func(f *api.Font) { f.Ranges[1].From = 'B' }},
		{"a feature's lookup", func(f *api.Font) { f.Features[1].Looks[2] = 7 }},
		{"11 features", func(f *api.Font) { f.Features = many(11, f.Features[2]) }},
		{"a swap's axis", func(f *api.Font) { f.Swaps[0].Conds[1].Axis = 2 }},
		{"a swap's feature", func(f *api.Font) { f.Swaps[1].Feature = 3 }},
		{"a swap's lookup", func(f *api.Font) { f.Swaps[1].Looks[0] = 7 }},
		{"a glyph that is put", func(f *api.Font) { f.Looks[1].Rules[0].Out[1] = 6 }},
		{"a glyph that is moved", func(f *api.Font) { f.Looks[5].Rules[0].In[1] = 6 }},
		{"a row of a move", func(f *api.Font) { f.Looks[4].Rules[0].W.Row = 3 }},
		{"a lookup within that moves", func(f *api.Font) { f.Looks[3].Rules[0].Look = 4 }},
		{"a lookup within that isn't there", func(f *api.Font) { f.Looks[3].Rules[0].Look = 7 }},
		{"an anchor that skips", func(f *api.Font) { f.Looks[6].Skip = true }},
		{"41 rules", func(f *api.Font) { f.Looks[0].Rules = many(41, f.Looks[0].Rules[0]) }},
		{"11 lookups", func(f *api.Font) { f.Looks = append(f.Looks, many(4, f.Looks[0])...) }},
		{"lookups for a feature", func(f *api.Font) { f.Looks = f.Looks[:6] }},
	} {
		l = append(l, one{x.name, changed(x.change)})
	}
	for _, kind := range []int{0, 8, 9, -1, 255, 256, 257, 1 << 32, 1<<32 + 1, math.MaxInt, math.MinInt} {
		f := least()
		f.Looks = []api.Lookup{{Kind: kind}}
		l = append(l, one{"a kind, alone", f})
		l = append(l, one{"a kind, the last", changed(func(f *api.Font) { f.Looks = append(f.Looks, api.Lookup{Kind: kind}) })})
	}
	return l
}

// TestFormed is P24.1's, and what Write says of each.
func TestFormed(t *testing.T) {
	for _, x := range formedOnes() {
		if !Formed(x.font) {
			t.Error(x.name, "isn't formed")
		}
		expectThereAndBack(t, x.name, x.font)
	}
	for _, x := range unformedOnes() {
		if Formed(x.font) {
			t.Error(x.name, "is formed")
		}
		if b, e := Write(x.font); e != api.ErrForm || len(b) != 0 {
			t.Error(x.name, len(b), e)
		}
	}
}

// expectThereAndBack asks that f is read as it is written, and written as it is read.
func expectThereAndBack(t *testing.T, name string, f api.Font) {
	t.Helper()
	b, e := Write(f)
	if e != api.OK {
		t.Error(name, "Write: error", e)
		return
	}
	g, e := Read(b)
	if e != api.OK || !alike(f, g) || !Same(f, g) {
		t.Error(name, "Read:", g, e)
	}
	if again, e := Write(g); e != api.OK || !bytes.Equal(again, b) {
		t.Error(name, "Write of what is read:", e)
	}
}

// expectBad asks that b is no font's file.
func expectBad(t *testing.T, name string, b []byte) {
	t.Helper()
	if f, e := Read(b); e != api.ErrBad || !reflect.DeepEqual(f, api.Font{}) {
		t.Errorf("%s: %d bytes: %v, error %d", name, len(b), f, e)
	}
}

// TestExample is the chapter's, byte by byte.
func TestExample(t *testing.T) {
	want := "\x00\x01\x00\x00" + "\x00\x08\x00\x80\x00\x03\x00\x00" +
		"axes" + "\x00\x00\x00\x00" + "\x00\x00\x00\x8c" + "\x00\x00\x00\x02" +
		"char" + "\x00\x00\x00\x00" + "\x00\x00\x00\x90" + "\x00\x00\x00\x02" +
		"draw" + "\x00\x00\x00\x00" + "\x00\x00\x00\x94" + "\x00\x00\x00\x02" +
		"feat" + "\x00\x00\x00\x00" + "\x00\x00\x00\x98" + "\x00\x00\x00\x04" +
		"glyf" + "\x00\x02\x00\x02" + "\x00\x00\x00\x9c" + "\x00\x00\x00\x13" +
		"look" + "\x00\x00\x00\x00" + "\x00\x00\x00\xb0" + "\x00\x00\x00\x02" +
		"metr" + "\x00\x00\x00\x00" + "\x00\x00\x00\xb4" + "\x00\x00\x00\x02" +
		"stor" + "\x00\x00\x00\x00" + "\x00\x00\x00\xb8" + "\x00\x00\x00\x06" +
		"\x00\x00\x00\x00" + "\x00\x00\x00\x00" + "\x00\x00\x00\x00" + "\x00\x00\x00\x00" +
		"\x00\x01" + "\x00\x00\x00\x02\x00\x00" + "\x00\x00\x00\x02\x00\x00" + "\x00\x00\xff\xff\x00" + "\x00" +
		"\x00\x00\x00\x00" + "\x00\x00\x00\x00" + "\x00\x00\x00\x00\x00\x00\x00\x00"
	b, e := Write(least())
	if e != api.OK || string(b) != want {
		t.Errorf("%x, error %d", b, e)
	}
	if f, e := Read([]byte(want)); e != api.OK || !Same(f, least()) {
		t.Error(f, e)
	}
	if !Formed(least()) {
		t.Error("it isn't formed")
	}
}

// tablesOf is f's tables, by the layers, formed or not for one another.
func tablesOf(f api.Font) []sfnt.Table {
	var l []sfnt.Table
	add := func(tag string) func(b []byte, e api.Errno) {
		return func(b []byte, e api.Errno) {
			if e != api.OK {
				panic(tag)
			}
			l = append(l, sfnt.Table{Tag: tag, Bytes: b})
		}
	}
	add("axes")(axes.Write(f.Axes))
	if len(f.Bends) > 0 {
		add("bend")(bend.Write(f.Bends))
	}
	add("stor")(store.Write(f.Store, len(f.Axes)))
	add("glyf")(glyphs.Write(f.Glyphs, f.Store, len(f.Axes)))
	add("metr")(metrics.Write(f.Metrics, f.Store))
	add("char")(chars.Write(f.Ranges, len(f.Glyphs)))
	add("draw")(strokes.Write(f.Drawings, f.Store))
	add("look")(lookTable(f.Looks), api.OK)
	add("feat")(feats.Write(f.Features, f.Swaps, len(f.Looks), len(f.Axes)))
	return l
}

// packed is the file of these tables.
func packed(t *testing.T, l []sfnt.Table) []byte {
	t.Helper()
	b, e := sfnt.Pack(l)
	if e != api.OK {
		t.Fatal("they can't be packed", e)
	}
	return b
}

// TestWriteOfTables: which tables there are, and what stands in them.
func TestWriteOfTables(t *testing.T) {
	for _, x := range formedOnes() {
		b, e := Write(x.font)
		if e != api.OK || !bytes.Equal(b, packed(t, tablesOf(x.font))) {
			t.Error(x.name, len(b), e)
		}
	}
	tags := func(f api.Font) (out string) {
		b, _ := Write(f)
		l, _ := sfnt.Unpack(b)
		for _, x := range l {
			out += x.Tag + " "
		}
		return out
	}
	without, with := "axes char draw feat glyf look metr stor ", "axes bend char draw feat glyf look metr stor "
	f := wide(1)
	if tags(f) != without || tags(full()) != with {
		t.Error(tags(f), tags(full()))
	}
	f.Bends = [][]api.Pair{}
	if tags(f) != without {
		t.Error("a list of no bends:", tags(f))
	}
	f.Bends = [][]api.Pair{nil}
	b, _ := Write(f)
	l, _ := sfnt.Unpack(b)
	if found, e := sfnt.Find(l, "bend"); tags(f) != with || e != api.OK || string(found) != "\x00\x01\x00\x00" {
		t.Error("a bend of no pairs:", tags(f), found, e)
	}
}

// heavy is a glyph of as many bytes as may be, for four axes.
func heavy() api.Glyph {
	slope := api.Tent{Start: 8192, Peak: 16384, End: 16384}
	g := api.Glyph{Advance: flat(1), Outline: api.Outline{Contours: [][]api.Point{make([]api.Point, 80)}}}
	for i := range 80 {
		g.Outline.Contours[0][i] = api.Point{X: i % 2 * 1000, Y: i % 2 * 1000, On: i%3 == 0}
	}
	g.Tuples = many(40, api.Tuple{Region: many(4, slope), All: true, DX: many(80, 1000), DY: many(80, -1000)})
	return g
}

// filled is a font that is written to just as many bytes as may be.
func filled(t *testing.T) api.Font {
	t.Helper()
	f := wide(4)
	f.Drawings = make([][]api.Step, 20)
	f.Features = many(10, api.Feature{Tag: "fill"})
	f.Looks = []api.Lookup{{Kind: api.Single}}
	size := func() int {
		l := tablesOf(f)
		n := 12
		for _, x := range l {
			n += 16 + (len(x.Bytes)+3)/4*4
		}
		return n
	}
	bare := size()
	f.Glyphs = append(f.Glyphs, heavy())
	each := size() - bare
	f.Glyphs = append(f.Glyphs, many((api.MaxBytes-bare)/(each+4)-1, heavy())...)
	curve := api.Step{Do: api.Curve, Args: many(6, flat(7))}
	for i := range (api.MaxBytes - size() - 8) / 25 {
		f.Drawings[i%20] = append(f.Drawings[i%20], curve)
	}
	for i := 0; size() < api.MaxBytes; i++ {
		f.Features[i%10].Looks = append(slices.Clone(f.Features[i%10].Looks), 0)
	}
	if size() != api.MaxBytes {
		t.Fatal("it isn't filled", size())
	}
	return f
}

// TestWriteErrors: the tables' errors, and the file's.
func TestWriteErrors(t *testing.T) {
	expect := func(name string, f api.Font, want api.Errno) {
		t.Helper()
		if !Formed(f) {
			t.Error(name, "it isn't formed")
		}
		if b, e := Write(f); e != want || len(b) != 0 {
			t.Error(name, len(b), e)
		}
	}
	apart := api.Glyph{Advance: flat(0), Outline: api.Outline{Contours: [][]api.Point{{{X: -32768}, {X: 32767}}}}}
	expect("points too far apart", changed(func(f *api.Font) { f.Glyphs = append(f.Glyphs, apart) }), api.ErrRange)
	f := wide(4)
	f.Glyphs = many(100, heavy())
	expect("too long a table", f, api.ErrLong)
	f.Glyphs[99] = apart
	expect("both", f, api.ErrRange)
	f.Looks = []api.Lookup{{Kind: 8}}
	if b, e := Write(f); e != api.ErrForm || len(b) != 0 {
		t.Error("all three", len(b), e)
	}
	f = filled(t)
	b, e := Write(f)
	if e != api.OK || len(b) != api.MaxBytes {
		t.Fatal("just as many bytes as may be:", len(b), e)
	}
	expectThereAndBack(t, "just as many bytes as may be", f)
	f.Metrics = []api.Metric{{Tag: "more", Slot: flat(0)}}
	expect("a metric more", f, api.ErrLong)
	for name, more := range map[string][]byte{"a byte": {0}, "four bytes": make([]byte, 4), "all once more": b} {
		if f, e := Read(slices.Concat(b, more)); e != api.ErrLong || !reflect.DeepEqual(f, api.Font{}) {
			t.Error(name, "more:", e)
		}
	}
	expectBad(t, "a byte less", b[:len(b)-1])
}

// TestReadOfOthers: bytes that are no file.
func TestReadOfOthers(t *testing.T) {
	expectBad(t, "nothing", nil)
	for _, f := range []api.Font{least(), full()} {
		b, _ := Write(f)
		for n := range b {
			expectBad(t, "too short", b[:n])
			for _, by := range []byte{1, 128, 255} {
				turned := slices.Clone(b)
				turned[n] ^= by
				expectBad(t, "a byte turned", turned)
			}
		}
		for _, more := range [][]byte{{0}, {0, 0, 0, 0}, make([]byte, 16), b} {
			expectBad(t, "too long", slices.Concat(b, more))
		}
	}
	for _, x := range []byte{0, 1, 32, 255} {
		expectBad(t, "one byte again and again", bytes.Repeat([]byte{x}, api.MaxBytes))
		if f, e := Read(bytes.Repeat([]byte{x}, api.MaxBytes+1)); e != api.ErrLong || !reflect.DeepEqual(f, api.Font{}) {
			t.Error("too long by one", e)
		}
	}
}

// with is l with these bytes as the table of that tag.
func with(l []sfnt.Table, tag, b string) []sfnt.Table {
	l = slices.DeleteFunc(slices.Clone(l), func(x sfnt.Table) bool { return x.Tag == tag })
	return append(l, sfnt.Table{Tag: tag, Bytes: []byte(b)})
}

// TestReadOfTables: files whose tables are too few, too many, or don't fit one another.
func TestReadOfTables(t *testing.T) {
	for _, x := range []one{{"the least", least()}, {"the full", full()}, {"of one axis", wide(1)}} {
		l := tablesOf(x.font)
		for i, table := range l {
			without := slices.Delete(slices.Clone(l), i, i+1)
			if table.Tag != "bend" {
				expectBad(t, x.name+", without "+table.Tag, packed(t, without))
			} else if f, e := Read(packed(t, without)); e != api.OK || len(f.Bends) > 0 {
				t.Error("without bends", f, e)
			}
			expectBad(t, x.name+", "+table.Tag+" of no bytes", packed(t, with(l, table.Tag, "")))
			expectBad(t, x.name+", "+table.Tag+" of a byte more", packed(t, with(l, table.Tag, string(table.Bytes)+"\x00")))
			expectBad(t, x.name+", "+table.Tag+" of a byte less", packed(t, with(l, table.Tag, string(table.Bytes[:len(table.Bytes)-1]))))
			for _, tag := range []string{"AXES", "aaaa", "zzzz", "    "} {
				expectBad(t, x.name+", "+table.Tag+" under "+tag, packed(t, append(without, sfnt.Table{Tag: tag, Bytes: table.Bytes})))
			}
		}
		for _, tag := range []string{"    ", "axet", "bena", "Look", "name", "stos", "~~~~"} {
			expectBad(t, x.name+", and "+tag, packed(t, with(l, tag, "")))
			expectBad(t, x.name+", and "+tag, packed(t, with(l, tag, "\x00\x00")))
		}
	}
	for _, x := range []struct {
		name   string
		font   api.Font
		tag, b string
	}{
		{"no bends of no axes", least(), "bend", "\x00\x00"},
		{"no bends of one axis", wide(1), "bend", "\x00\x00"},
		{"one bend of no axes", least(), "bend", "\x00\x01\x00\x00"},
		{"one bend of two axes", wide(2), "bend", "\x00\x01\x00\x00"},
		{"two bends of one axis", wide(1), "bend", "\x00\x02\x00\x00\x00\x00"},
		{"a store for one axis of none", least(), "stor", "\x00\x01\x00\x00\x00\x00"},
		{"a store for no axes of one", wide(1), "stor", "\x00\x00\x00\x00\x00\x00"},
		{"a store for four axes of one", wide(1), "stor", "\x00\x04\x00\x00\x00\x00"},
		{"axes that the store isn't for", least(), "axes", "\x00\x01wght" + string(make([]byte, 12))},
		{"no axes, with others' bends and regions", full(), "axes", "\x00\x00"},
		{"a store without rows", full(), "stor", "\x00\x02\x00\x00\x00\x00"},
		{"one glyph, without the ranges' and rules' others", full(), "glyf", "\x00\x01" + "\x00\x00\x00\x02\x00\x00" + "\x00\x00\x00\x02\x00\x00" + "\x00\x00\xff\xff\x00"},
		{"no glyphs", least(), "glyf", "\x00\x00"},
		{"a metric of a row that isn't there", least(), "metr", "\x00\x01hasc\x00\x00\x00\x00"},
		{"a step of a row that isn't there", least(), "draw", "\x00\x01\x00\x01\x01" + string(make([]byte, 8))},
		{"a range of a glyph that isn't there", least(), "char", "\x00\x01\x00\x00\x00\x41\x00\x00\x00\x41\x00\x01"},
		{"no lookups, of features that have some", full(), "look", "\x00\x00"},
		{"a feature of a lookup that isn't there", least(), "feat", "\x00\x01liga\x00\x01\x00\x00\x00\x00"},
		{"a swap of an axis that isn't there", least(), "feat", "\x00\x01liga\x00\x00\x00\x01\x00\x01\x00\x00\x00\x00\x00\x00\x00\x00\x00\x00"},
		{"a lookup of no kind", least(), "look", "\x00\x01\x00\x00\x00\x00"},
		{"a lookup of an eighth kind", least(), "look", "\x00\x01\x08\x00\x00\x00"},
		{"a lookup that skips twice", least(), "look", "\x00\x01\x01\x02\x00\x00"},
		{"a rule of a glyph that isn't there", least(), "look", "\x00\x01\x01\x00\x00\x01\x01\x00\x00\x01\x00\x01" + string(make([]byte, 14))},
	} {
		if _, e := Read(packed(t, tablesOf(x.font))); e != api.OK {
			t.Error(x.name, "without that:", e)
		}
		expectBad(t, x.name, packed(t, with(tablesOf(x.font), x.tag, x.b)))
	}
	// The same shapes, as they should be.
	for tag, b := range map[string]string{
		"draw": "\x00\x01\x00\x01\x01" + "\x00\x00\xff\xff\x00\x00\xff\xff",
		"look": "\x00\x01\x01\x01\x00\x01\x01\x00\x00\x01\x00\x00" + string(make([]byte, 14)),
		"char": "\x00\x01\x00\x00\x00\x41\x00\x00\x00\x41\x00\x00",
		"metr": "\x00\x01hasc\x00\x00\xff\xff",
		"feat": "\x00\x01liga\x00\x00\x00\x01\x00\x00\x00\x00\x00\x00",
	} {
		if f, e := Read(packed(t, with(tablesOf(least()), tag, b))); e != api.OK || !Formed(f) {
			t.Error(tag, f, e)
		}
	}
}

// TestReadOfTurned is P24.4 and P4: tables of which some bytes are others, packed rightly, are a font's just if it is written to these very bytes.
func TestReadOfTurned(t *testing.T) {
	r := rand.New(rand.NewSource(244))
	read := 0
	for range 20000 {
		l := tablesOf([]api.Font{least(), full(), wide(3)}[r.Intn(3)])
		for range 1 + r.Intn(2) {
			x := &l[r.Intn(len(l))]
			x.Bytes[r.Intn(len(x.Bytes))] = byte([]int{0, 1, 2, 5, 64, 255, r.Intn(256)}[r.Intn(7)])
		}
		b := packed(t, l)
		f, e := Read(b)
		if e != api.OK {
			expectBad(t, "turned", b)
			continue
		}
		read++
		if again, e := Write(f); e != api.OK || !bytes.Equal(again, b) || !Formed(f) || !bytes.Equal(packed(t, tablesOf(f)), b) {
			t.Fatal(f, e)
		}
	}
	if read < 2000 || read > 18000 {
		t.Error("too few of a kind", read)
	}
}

// TestAnything is R1, R3 and P24.4: whatever they are given, the calls end; what isn't formed isn't written, and what is written is read as it was.
func TestAnything(t *testing.T) {
	r := rand.New(rand.NewSource(24))
	seen := map[api.Errno]int{}
	for range 10000 {
		f := full()
		for range 1 + r.Intn(3) {
			var l []reflect.Value
			places(reflect.ValueOf(&f).Elem(), "", func(_ string, x reflect.Value) { l = append(l, x) })
			x := l[r.Intn(len(l))]
			x.Set(draw(r, others(x), x))
		}
		if !Same(f, f) || Same(f, full()) != alike(f, full()) {
			t.Fatal("Same", f)
		}
		if b, e := Looks(f.Looks); e != api.OK && e != api.ErrForm || e != api.OK && len(b) > 0 {
			t.Fatal("Looks", f.Looks, e)
		}
		b, e := Write(f)
		seen[e]++
		if Formed(f) != (e != api.ErrForm) || e != api.OK && len(b) > 0 {
			t.Fatal("Write", f, e)
		}
		if e == api.OK {
			expectThereAndBack(t, "any", f)
		}
	}
	if seen[api.OK] < 1000 || seen[api.ErrForm] < 1000 {
		t.Error("too few of a kind", seen)
	}
}

// draw is one of l, or x.
func draw(r *rand.Rand, l []reflect.Value, x reflect.Value) reflect.Value {
	if len(l) == 0 {
		return x
	}
	return l[r.Intn(len(l))]
}

// TestMemory is R5: what is handed in stays as it is and isn't kept; what is answered is new memory.
func TestMemory(t *testing.T) {
	f := full()
	spare(reflect.ValueOf(&f).Elem())
	b, e := Write(f)
	if !Formed(f) || e != api.OK || !Same(f, full()) {
		t.Fatal("it isn't the full one", e)
	}
	expectSpared(t, "Write", reflect.ValueOf(f))
	file := slices.Clone(b)
	clear(b)
	if again, _ := Write(f); !bytes.Equal(again, file) {
		t.Error("the file isn't new")
	}
	roomy := slices.Concat(file, file)
	g, _ := Read(roomy[:len(file)])
	if !bytes.Equal(roomy[:len(file)], file) || !bytes.Equal(roomy[len(file):], file) {
		t.Error("Read changed the bytes")
	}
	clear(roomy)
	if !Same(g, full()) {
		t.Error("Read kept the bytes")
	}
	expectApart(t, "Read", reflect.ValueOf(g))
	other, _ := Read(file)
	expectApart(t, "two fonts", reflect.ValueOf([]api.Font{g, other}))
	expectApart(t, "a font written and one read", reflect.ValueOf([]api.Font{f, other}))
}

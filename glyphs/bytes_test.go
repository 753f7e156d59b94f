package glyphs

import (
	"bytes"
	"encoding/binary"
	"math"
	"math/rand"
	"slices"
	"testing"

	"foundry/api"
	"foundry/outline"
	"foundry/tuples"
)

func sameTuple(t, u api.Tuple) bool {
	return t.All == u.All && slices.Equal(t.Region, u.Region) && slices.Equal(t.Points, u.Points) && slices.Equal(t.DX, u.DX) && slices.Equal(t.DY, u.DY)
}

// sameGlyph is whether two glyphs hold the same, lists without elements being all one.
func sameGlyph(g, h api.Glyph) bool {
	return sameContours(g.Outline.Contours, h.Outline.Contours) && slices.Equal(g.Outline.Parts, h.Outline.Parts) &&
		slices.EqualFunc(g.Tuples, h.Tuples, sameTuple) && g.Advance == h.Advance && g.Mark == h.Mark
}

func alike(l, m []api.Glyph) bool { return slices.EqualFunc(l, m, sameGlyph) }

// table writes glyphs' bytes, formed or not, by another library; only outlines and tuples are written by their layers.
func table(l []api.Glyph, axes int) []byte {
	b := binary.BigEndian.AppendUint16(nil, uint16(len(l)))
	for _, g := range l {
		drawn, _ := outline.Write(g.Outline)
		varied, _ := tuples.Write(g.Outline, g.Tuples, axes)
		b = append(binary.BigEndian.AppendUint32(b, uint32(len(drawn))), drawn...)
		b = append(binary.BigEndian.AppendUint32(b, uint32(len(varied))), varied...)
		b = binary.BigEndian.AppendUint16(b, uint16(g.Advance.Base))
		b = binary.BigEndian.AppendUint16(b, uint16(g.Advance.Row))
		mark := byte(0)
		if g.Mark {
			mark = 1
		}
		b = append(b, mark)
	}
	return b
}

func expectBad(t *testing.T, name string, b []byte, s api.Store, axes int) {
	t.Helper()
	if l, e := Read(b, s, axes); e != api.ErrBad || len(l) != 0 {
		t.Errorf("%s: %d bytes: %v, error %d", name, len(b), l, e)
	}
}

func TestWriteOfBytes(t *testing.T) {
	stem := drawn([]api.Point{{X: 10, On: true}, {X: 10, Y: 300, On: true}})
	stem.Tuples = []api.Tuple{{Region: region(slope()), Points: []int{1}, DX: []int{5}, DY: []int{-7}}}
	stem.Advance = api.Slot{Base: -2, Row: 1}
	other := made(api.Part{Glyph: 0, DX: 3, DY: -1})
	other.Advance, other.Mark = still(500), true
	b, e := Write([]api.Glyph{stem, other}, oneAxis(), 1)
	want := []byte{
		0, 2,
		0, 0, 0, 9, 0, 1, 0, 1, 51, 17, 10, 1, 44,
		0, 0, 0, 15, 0, 1, 0, 0, 64, 0, 64, 0, 1, 0, 1, 0, 5, 0, 249,
		255, 254, 0, 1, 0,
		0, 0, 0, 10, 255, 255, 0, 1, 0, 0, 0, 3, 255, 255,
		0, 0, 0, 2, 0, 0,
		1, 244, 255, 255, 1,
	}
	if e != api.OK || !bytes.Equal(b, want) {
		t.Error(b, e)
	}
	b, e = Write([]api.Glyph{drawn()}, api.Store{}, 0)
	if e != api.OK || !bytes.Equal(b, []byte{0, 1, 0, 0, 0, 2, 0, 0, 0, 0, 0, 2, 0, 0, 0, 0, 255, 255, 0}) {
		t.Error("the least", b, e)
	}
	for _, l := range [][]api.Glyph{family(), chain(7), tree(drawn(dots(80)), 5, 2)} {
		if b, e := Write(l, oneAxis(), 1); e != api.OK || !bytes.Equal(b, table(l, 1)) {
			t.Error(b, e)
		}
		expectFormed(t, "written", l, oneAxis(), 1)
	}
}

// apart is a formed glyph whose points lie too far apart to be written.
func apart() api.Glyph { return drawn([]api.Point{{X: -32768}, {X: 32767}}) }

// heavy is as many glyphs, of n points each, as may be, each with 40 tuples that take many bytes.
func heavy(n int) []api.Glyph {
	var l []api.Glyph
	for i := range 100 {
		g := drawn(dots(n))
		for j := range 40 {
			dx, dy := make([]int, n), make([]int, n)
			for k := range n {
				dx[k], dy[k] = 1000+i+j+k, -1000-i-j-k
			}
			g.Tuples = append(g.Tuples, api.Tuple{Region: region(slope(), slope(), slope(), slope()), All: true, DX: dx, DY: dy})
		}
		l = append(l, g)
	}
	return l
}

// filled is glyphs of four axes that have just so many bytes, about a million.
func filled(t *testing.T, want int) []api.Glyph {
	t.Helper()
	const points = 60
	l := heavy(points)[1:]
	last := drawn(dots(points))
	for range 40 {
		u := api.Tuple{Region: region(slope(), slope(), slope(), slope()), All: true, DX: make([]int, points), DY: make([]int, points)}
		u.DX[0] = 1
		last.Tuples = append(last.Tuples, u)
	}
	l = append(l, last)
	for len(table(l, 4)) > want {
		if len(l[0].Tuples) > 0 {
			l[0].Tuples = l[0].Tuples[1:]
		} else {
			l = l[1:]
		}
	}
	// What lacks is filled up by changes of the last glyph: from the first one on, each that isn't 0 takes a byte more.
	lacking := want - len(table(l, 4))
	for _, u := range last.Tuples {
		for i := 1; i < points-1 && lacking > 0; i++ {
			u.DX[i] = 1
			lacking--
		}
	}
	if n := len(table(l, 4)); n != want {
		t.Fatal("bytes", n, "not", want)
	}
	return l
}

func TestWriteErrors(t *testing.T) {
	expect := func(name string, l []api.Glyph, want api.Errno) {
		t.Helper()
		if b, e := Write(l, api.Store{}, 4); e != want || len(b) != 0 {
			t.Error(name, len(b), e)
		}
	}
	if !Formed([]api.Glyph{apart()}, api.Store{}, 4) {
		t.Error("apart isn't formed")
	}
	expect("not formed, and too far apart", []api.Glyph{apart(), made(of(1))}, api.ErrForm)
	expect("too far apart", []api.Glyph{apart()}, api.ErrRange)
	expect("too far apart", []api.Glyph{drawn(), made(of(2)), apart()}, api.ErrRange)
	long := heavy(80)
	if !Formed(long, api.Store{}, 4) {
		t.Error("heavy ones aren't formed")
	}
	expect("too long", long, api.ErrLong)
	expect("too long, then too far apart", append(slices.Clone(long[:99]), apart()), api.ErrRange)
	expect("too far apart, then too long", append([]api.Glyph{apart()}, long[:99]...), api.ErrRange)
	expect("too long and not formed", append(slices.Clone(long), drawn()), api.ErrForm)
	expectBad(t, "too long", table(long, 4), api.Store{}, 4)
}

func TestWriteAtMaxBytes(t *testing.T) {
	most := filled(t, 1<<20)
	b, e := Write(most, api.Store{}, 4)
	if e != api.OK || !bytes.Equal(b, table(most, 4)) {
		t.Error("just MaxBytes", len(b), e)
	}
	if l, e := Read(b, api.Store{}, 4); e != api.OK || !alike(l, most) {
		t.Error("just MaxBytes", e)
	}
	more := filled(t, 1<<20+1)
	if b, e := Write(more, api.Store{}, 4); e != api.ErrLong || len(b) != 0 {
		t.Error("one more", len(b), e)
	}
	expectBad(t, "one more", table(more, 4), api.Store{}, 4)
}

func TestReadOfOthers(t *testing.T) {
	b, _ := Write(family(), oneAxis(), 1)
	for n := range b {
		expectBad(t, "too short", b[:n], oneAxis(), 1)
	}
	for _, more := range [][]byte{{0}, {255}, {0, 0, 0, 0}, b} {
		expectBad(t, "too long", slices.Concat(b, more), oneAxis(), 1)
	}
	for _, axes := range []int{-1, 0, 2, 4, 5, math.MinInt, math.MaxInt} {
		expectBad(t, "other axes", b, oneAxis(), axes)
	}
	expectBad(t, "other store", b, api.Store{}, 1)
	expectBad(t, "store that isn't formed", b, api.Store{Rows: [][]int{{}, {1}}}, 1)
	least, _ := Write([]api.Glyph{drawn()}, api.Store{}, 0)
	expectBad(t, "store that isn't formed", least, api.Store{Rows: [][]int{{1}}}, 0)
	for axes := range 5 {
		if l, e := Read(least, api.Store{}, axes); e != api.OK || len(l) != 1 {
			t.Error(axes, l, e)
		}
	}
	for mark := 2; mark < 256; mark++ {
		least[len(least)-1] = byte(mark)
		expectBad(t, "mark", least, api.Store{}, 0)
	}
	// Written rightly, but not formed.
	wrong := map[string][]api.Glyph{
		"none": {}, "101": slices.Repeat([]api.Glyph{drawn()}, 101), "too deep": chain(8), "itself": {made(of(0))},
		"2001 points": append(tree(drawn(dots(80)), 5, 2), drawn(dots(1)), made(of(2), of(3))),
		"not there":   {made(of(1))}, "no row": {{Advance: api.Slot{Row: 2}}}, "below None": {{Advance: api.Slot{Row: -2}}},
	}
	for name, l := range wrong {
		expectBad(t, name, table(l, 1), oneAxis(), 1)
	}
	many := table(slices.Repeat([]api.Glyph{drawn()}, 100), 0)
	if l, e := Read(many, api.Store{}, 0); e != api.OK || len(l) != 100 {
		t.Error("MaxGlyphs", len(l), e)
	}
	binary.BigEndian.PutUint32(many[2:], math.MaxUint32)
	expectBad(t, "a length beyond all", many, api.Store{}, 0)
	expectBad(t, "zeros", make([]byte, 1<<21), api.Store{}, 0)
	expectBad(t, "ones", bytes.Repeat([]byte{255}, 1<<16), api.Store{}, 0)
}

// TestReadOfTurned: whatever byte is turned, the bytes are either no glyphs', or those of other ones, which are written so.
func TestReadOfTurned(t *testing.T) {
	b, _ := Write(family(), oneAxis(), 1)
	r := rand.New(rand.NewSource(1))
	turned, others := slices.Clone(b), 0
	check := func(name string) {
		t.Helper()
		l, e := Read(turned, oneAxis(), 1)
		if e == api.ErrBad && len(l) == 0 {
			return
		}
		others++
		if e != api.OK || !Formed(l, oneAxis(), 1) || !bytes.Equal(table(l, 1), turned) {
			t.Errorf("%s: %x: %v, error %d", name, turned, l, e)
		}
	}
	for i := range b {
		for n := range 255 {
			turned[i] = b[i] + byte(n+1)
			check("one byte")
		}
		turned[i] = b[i]
	}
	if others == 0 || others > 255*len(b)/2 {
		t.Error("others", others)
	}
	for range 20000 {
		copy(turned, b)
		for range 1 + r.Intn(4) {
			turned[r.Intn(len(b))] = byte(r.Intn(256))
		}
		check("some bytes")
	}
}

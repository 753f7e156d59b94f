package tuples

import (
	"bytes"
	"encoding/binary"
	"math"
	"math/rand"
	"slices"
	"testing"

	"foundry/api"
	"foundry/infer"
	"foundry/packed"
	"foundry/ratio"
)

// table writes tuples' bytes, formed or not, by another library; only the lists are packed by layer 11.
func table(l []api.Tuple) []byte {
	b := binary.BigEndian.AppendUint16(nil, uint16(len(l)))
	for _, t := range l {
		for _, x := range t.Region {
			for _, n := range []int{x.Start, x.Peak, x.End} {
				b = binary.BigEndian.AppendUint16(b, uint16(n))
			}
		}
		points, _ := packed.Points(t.Points)
		dx, _ := packed.Changes(t.DX)
		dy, _ := packed.Changes(t.DY)
		b = slices.Concat(b, points, dx, dy)
	}
	return b
}

// parsed is the tuples that b tells, in whatever way; false, if it tells none.
func parsed(b []byte, o api.Outline, axes int) ([]api.Tuple, bool) {
	lacks := false
	take := func(n int) []byte {
		if n > len(b) {
			lacks = true
			return make([]byte, n)
		}
		front := b[:n]
		b = b[n:]
		return front
	}
	signed := func() int { return int(int16(binary.BigEndian.Uint16(take(2)))) }
	changes := func(n int) []int {
		l, used, e := packed.ReadChanges(b, n)
		lacks = lacks || e != api.OK
		take(used)
		return l
	}
	var l []api.Tuple
	n := int(binary.BigEndian.Uint16(take(2)))
	for i := 0; i < min(n, 41) && !lacks; i++ {
		var t api.Tuple
		for range axes {
			t.Region = append(t.Region, api.Tent{Start: signed(), Peak: signed(), End: signed()})
		}
		points, used, e := packed.ReadPoints(b)
		lacks = lacks || e != api.OK
		take(used)
		t.Points, t.All = points, len(points) == 0
		many := len(points)
		if t.All {
			many = infer.Count(o)
		}
		t.DX, t.DY = changes(many), changes(many)
		l = append(l, t)
	}
	return l, !lacks
}

// expectRead fails unless Read answers of b what the chapter says; it answers whether they were tuples' bytes.
func expectRead(t *testing.T, name string, b []byte, o api.Outline, axes int) bool {
	t.Helper()
	want, is := parsed(b, o, axes)
	is = is && wellFormed(o, want, axes) && bytes.Equal(table(want), b)
	l, e := Read(b, o, axes)
	switch {
	case is && (e != api.OK || !alike(l, want)):
		t.Errorf("%s: %x of tuples: %v, error %d", name, b, l, e)
	case !is && (e != api.ErrBad || len(l) != 0):
		t.Errorf("%s: %x of no tuples: %v, error %d", name, b, l, e)
	}
	return is
}

func expectBad(t *testing.T, name string, b []byte, o api.Outline, axes int) {
	t.Helper()
	if l, e := Read(b, o, axes); e != api.ErrBad || len(l) != 0 {
		t.Errorf("%s: %x: %v, error %d", name, b, l, e)
	}
}

func TestWriteOfBytes(t *testing.T) {
	b, e := Write(square(), mixed(), 2)
	want := []byte{
		0, 3,
		0, 0, 64, 0, 64, 0, 0, 0, 32, 0, 64, 0,
		3, 2, 0, 2, 5, 2, 246, 30, 5, 0, 1, 128, 64, 254, 212,
		0, 0, 0, 0, 0, 0, 0, 0, 0, 0, 0, 0,
		1, 0, 6, 0, 7, 128,
		192, 0, 224, 0, 0, 0, 0, 0, 0, 0, 0, 0,
		0, 7, 1, 2, 3, 4, 5, 6, 7, 8, 131, 0, 248, 66, 0, 128, 127, 255, 128, 0,
	}
	if e != api.OK || !bytes.Equal(b, want) {
		t.Error(b, e)
	}
	if l, e := Read(b, square(), 2); e != api.OK || !alike(l, mixed()) {
		t.Error(l, e)
	}
	for axes := range 5 {
		for _, o := range []api.Outline{{}, square(), threeParts()} {
			if b, e := Write(o, nil, axes); e != api.OK || !bytes.Equal(b, []byte{0, 0}) {
				t.Error(axes, b, e)
			}
			if l, e := Read([]byte{0, 0}, o, axes); e != api.OK || len(l) != 0 {
				t.Error(axes, l, e)
			}
		}
	}
	// Of nothing at all, all are told of, twice, without a region.
	if b, e := Write(api.Outline{}, []api.Tuple{{All: true}, {All: true}}, 0); e != api.OK || !bytes.Equal(b, []byte{0, 2, 0, 0}) {
		t.Error(b, e)
	}
	if l, e := Read([]byte{0, 2, 0, 0}, api.Outline{}, 0); e != api.OK || !alike(l, []api.Tuple{{All: true}, {All: true}}) {
		t.Error(l, e)
	}
	// All that are named stay named.
	named, all := []api.Tuple{{Points: []int{0, 1, 2}, DX: []int{1, 2, 3}, DY: []int{0, 0, 0}}}, []api.Tuple{{All: true, DX: []int{1, 2, 3}, DY: []int{0, 0, 0}}}
	if b, e := Write(threeParts(), named, 0); e != api.OK || !bytes.Equal(b, []byte{0, 1, 3, 2, 0, 1, 1, 2, 1, 2, 3, 130}) {
		t.Error(b, e)
	}
	if b, e := Write(threeParts(), all, 0); e != api.OK || !bytes.Equal(b, []byte{0, 1, 0, 2, 1, 2, 3, 130}) {
		t.Error(b, e)
	}
}

func TestThereAndBack(t *testing.T) {
	check := func(o api.Outline, l []api.Tuple, axes int) {
		t.Helper()
		b, e := Write(o, l, axes)
		if e != api.OK || !bytes.Equal(b, table(l)) {
			t.Fatalf("%v %v for %d: %x, error %d", o, l, axes, b, e)
		}
		m, e := Read(b, o, axes)
		if e != api.OK || !alike(m, l) {
			t.Fatalf("%v %v for %d: %v, error %d", o, l, axes, m, e)
		}
		if again, e := Write(o, m, axes); e != api.OK || !bytes.Equal(again, b) {
			t.Fatalf("%v %v for %d: %x, error %d", o, l, axes, again, e)
		}
	}
	r := rand.New(rand.NewSource(1))
	for range 2000 {
		o, axes := outlineAny(r), r.Intn(5)
		check(o, tuplesAny(r, o, axes, 5), axes)
	}
	full := drawn(slices.Repeat([][]api.Point{make([]api.Point, 8)}, 10)...)
	for range 20 {
		check(full, tuplesAny(r, full, 4, 40), 4)
	}
	wide := wholly(slices.Repeat([]int{-32768}, 80), slices.Repeat([]int{32767}, 80))
	check(full, slices.Repeat([]api.Tuple{wide}, 40), 1)
}

func TestReadOfTooFewOrMany(t *testing.T) {
	o, l := square(), mixed()
	b := table(l)
	for n := range b {
		expectBad(t, "too few", b[:n], o, 2)
	}
	for _, more := range [][]byte{{0}, {1}, {0, 0}, {128}, table(nil), b} {
		expectBad(t, "too many", slices.Concat(b, more), o, 2)
	}
	expectBad(t, "nothing", nil, o, 2)
	expectBad(t, "nothing", []byte{}, api.Outline{}, 0)
	expectBad(t, "one byte", []byte{0}, o, 2)
	expectBad(t, "three bytes", []byte{0, 0, 0}, o, 2)
	for _, n := range []byte{0, 1, 2, 4, 40, 41, 255} {
		c := bytes.Clone(b)
		c[1] = n
		expectBad(t, "another number of tuples", c, o, 2)
	}
	one := api.Tuple{All: true}
	for _, n := range []int{39, 40, 41, 42, 256, 65535} {
		many := slices.Repeat([]api.Tuple{one}, n)
		if is := expectRead(t, "many", table(many), api.Outline{}, 0); is != (n <= 40) {
			t.Error(n, is)
		}
	}
	expectBad(t, "65535 without bytes", []byte{255, 255}, api.Outline{}, 0)
	expectBad(t, "very many bytes", make([]byte, 1<<21), o, 2)
	expectBad(t, "very many bytes", bytes.Repeat([]byte{255}, 1<<21), o, 2)
}

func TestReadForOthers(t *testing.T) {
	o, l := square(), mixed()
	b := table(l)
	for _, axes := range []int{math.MinInt, -1, 0, 1, 3, 4, 5, 65536, math.MaxInt} {
		expectBad(t, "other axes", b, o, axes)
	}
	for _, axes := range []int{math.MinInt, -65536, -1, 5, 6, 65536, math.MaxInt} {
		expectBad(t, "no such axes", []byte{0, 0}, o, axes)
	}
	for n := 1; n <= 80; n++ {
		other := drawn(make([]api.Point, n))
		// The square has eight points, and that is all that counts.
		if is := expectRead(t, "another outline", b, other, 2); is != (n == 8) {
			t.Error(n, is)
		}
	}
	expectBad(t, "parts", b, threeParts(), 2)
	expectBad(t, "nothing", b, api.Outline{}, 2)
	// Points that are named must be there, though the bytes would do.
	last := table([]api.Tuple{partly([]int{2}, []int{1}, []int{2})})
	for n := range 7 {
		if is := expectRead(t, "parts", last, made(make([]api.Part, n)...), 1); is != (n >= 3) {
			t.Error(n, is)
		}
	}
	for _, u := range unformed() {
		n := infer.Count(u)
		expectBad(t, "an unformed outline", []byte{0, 0}, u, 1)
		expectBad(t, "an unformed outline", table([]api.Tuple{partly([]int{0}, []int{1}, []int{2})}), u, 1)
		expectBad(t, "an unformed outline", table([]api.Tuple{wholly(make([]int, min(n, 2000)), make([]int, min(n, 2000)))}), u, 1)
	}
}

// TestReadOfOtherWritings: bytes that tell tuples rightly, but not in the one way in which they are written.
func TestReadOfOtherWritings(t *testing.T) {
	o := threeParts()
	right := []byte{0, 1, 2, 1, 0, 2, 0, 5, 128, 129}
	if l, e := Read(right, o, 0); e != api.OK || !alike(l, []api.Tuple{{Points: []int{0, 2}, DX: []int{5, 0}, DY: []int{0, 0}}}) {
		t.Fatal(l, e)
	}
	for name, b := range map[string][]byte{
		"how many points in two bytes": {0, 1, 128, 2, 1, 0, 2, 0, 5, 128, 129},
		"two runs of points":           {0, 1, 2, 0, 0, 0, 2, 0, 5, 128, 129},
		"wide points":                  {0, 1, 2, 129, 0, 0, 0, 2, 0, 5, 128, 129},
		"narrow noughts":               {0, 1, 2, 1, 0, 2, 1, 5, 0, 129},
		"wide changes":                 {0, 1, 2, 1, 0, 2, 64, 0, 5, 128, 129},
		"two runs of noughts":          {0, 1, 2, 1, 0, 2, 0, 5, 128, 128, 128},
		"wide noughts":                 {0, 1, 2, 1, 0, 2, 0, 5, 128, 65, 0, 0, 0, 0},
		"all in two bytes":             {0, 1, 128, 0, 130, 130},
		"a run too long":               {0, 1, 2, 2, 0, 2, 1, 0, 5, 128, 129},
		"changes too long":             {0, 1, 2, 1, 0, 2, 0, 5, 129, 129},
		"both bits":                    {0, 1, 2, 1, 0, 2, 0, 5, 192, 129},
		"a point twice":                {0, 1, 2, 1, 0, 0, 0, 5, 128, 129},
		"a point beyond":               {0, 1, 2, 1, 0, 3, 0, 5, 128, 129},
		"a run over both":              {0, 1, 2, 1, 0, 2, 0, 5, 130},
	} {
		expectBad(t, name, b, o, 0)
		expectRead(t, name, b, o, 0)
	}
	if l, e := Read([]byte{0, 1, 0, 130, 130}, o, 0); e != api.OK || !alike(l, []api.Tuple{{All: true, DX: make([]int, 3), DY: make([]int, 3)}}) {
		t.Error(l, e)
	}
	for _, tent := range [][]byte{{0, 0, 0, 0, 0, 1}, {0, 0, 64, 0, 64, 1}, {64, 0, 64, 0, 64, 0}, {0, 0, 0, 5, 0, 5}, {255, 255, 0, 5, 0, 6}, {128, 0, 128, 0, 0, 0}} {
		expectBad(t, "a tent", slices.Concat([]byte{0, 1}, tent, []byte{0, 130, 130}), o, 1)
	}
	for _, tent := range [][]byte{{0, 0, 0, 0, 0, 0}, {0, 0, 64, 0, 64, 0}, {192, 0, 192, 0, 255, 255}} {
		if !expectRead(t, "a tent", slices.Concat([]byte{0, 1}, tent, []byte{0, 130, 130}), o, 1) {
			t.Error(tent)
		}
	}
}

// TestReadOfTurnedBytes turns each byte to each other one.
func TestReadOfTurnedBytes(t *testing.T) {
	right, wrong := 0, 0
	for _, c := range []struct {
		o    api.Outline
		l    []api.Tuple
		axes int
	}{{square(), mixed(), 2}, {threeParts(), []api.Tuple{wholly([]int{1, 0, 300}, []int{0, 0, 5})}, 1}, {api.Outline{}, []api.Tuple{{All: true}}, 0}} {
		b := table(c.l)
		for i := range b {
			for n := range 256 {
				turned := bytes.Clone(b)
				turned[i] = byte(n)
				if expectRead(t, "turned", turned, c.o, c.axes) {
					right++
				} else {
					wrong++
				}
			}
		}
	}
	if right < 1000 || wrong < 1000 {
		t.Error(right, wrong)
	}
}

func TestReadOfDrawnBytes(t *testing.T) {
	r := rand.New(rand.NewSource(2))
	for range 20000 {
		o, axes := outlineAny(r), r.Intn(5)
		var b []byte
		if r.Intn(2) == 0 {
			b = table(tuplesAny(r, o, axes, 3))
			for range 1 + r.Intn(3) {
				b[r.Intn(len(b))] ^= 1 << r.Intn(8)
			}
		} else {
			b = []byte{0, byte(r.Intn(4))}
			for range r.Intn(30) {
				b = append(b, []byte{0, 0, 1, 2, 64, 128, 129, byte(r.Intn(256))}[r.Intn(8)])
			}
		}
		expectRead(t, "drawn", b, o, axes)
	}
}

// roomy is l with more room behind it, filled with x.
func roomy[T any](l []T, x T) []T {
	return append(slices.Clone(l), x, x, x)[:len(l)]
}

// leftAlone is whether a list made by roomy, and its room, are as they were.
func leftAlone[T comparable](l, was []T, x T) bool {
	return slices.Equal(l[:len(was)+3], append(slices.Clone(was), x, x, x))
}

func TestArgumentsAreLeft(t *testing.T) {
	spare, spareTent, sparePart := api.Point{X: 77, On: true}, api.Tent{Peak: 77}, api.Part{Glyph: 77}
	for _, was := range []api.Outline{square(), threeParts()} {
		o := api.Outline{Parts: roomy(was.Parts, sparePart)}
		for _, c := range was.Contours {
			o.Contours = append(o.Contours, roomy(c, spare))
		}
		tuplesWere := mixed()
		if len(was.Parts) > 0 {
			tuplesWere = []api.Tuple{{Region: region(hill(), api.Tent{}), Points: []int{0, 2}, DX: []int{1, 2}, DY: []int{3, 4}}, {Region: region(api.Tent{}, api.Tent{}), All: true, DX: []int{1, 2, 3}, DY: []int{4, 5, 6}}}
		}
		var l []api.Tuple
		for _, u := range tuplesWere {
			l = append(l, api.Tuple{Region: roomy(u.Region, spareTent), All: u.All, Points: roomy(u.Points, 77), DX: roomy(u.DX, 77), DY: roomy(u.DY, 77)})
		}
		coords, b := roomy([]int{8192, 4096}, 77), roomy(table(tuplesWere), 77)
		Formed(o, l, 2)
		Exact(o, l, coords)
		Exact(o, l, coords[:1])
		At(o, l, coords)
		Write(o, l, 2)
		if _, e := Read(b, o, 2); e != api.OK {
			t.Error(e)
		}
		Read(b[:len(b)-1], o, 2)
		for i, u := range tuplesWere {
			if !leftAlone(l[i].Region, u.Region, spareTent) || !leftAlone(l[i].Points, u.Points, 77) || !leftAlone(l[i].DX, u.DX, 77) || !leftAlone(l[i].DY, u.DY, 77) {
				t.Error(l[i])
			}
		}
		for i, c := range was.Contours {
			if !leftAlone(o.Contours[i], c, spare) {
				t.Error(o.Contours[i])
			}
		}
		if !leftAlone(coords, []int{8192, 4096}, 77) || !leftAlone(b, table(tuplesWere), 77) || !leftAlone(o.Parts, was.Parts, sparePart) {
			t.Error(coords[:5], b[:len(b)+3], o.Parts)
		}
	}
}

// scribble fills a list, and the room behind it, with x.
func scribble[T any](l []T, x T) {
	for i := range l[:cap(l)] {
		l[:cap(l)][i] = x
	}
}

// TestExactIsNew scribbles on fractions one by one: all that come behind must stay as they were.
func TestExactIsNew(t *testing.T) {
	for _, coords := range [][]int{{0, 0}, {8192, 4096}, {16385, 0}} {
		o, l := square(), mixed()
		x, y, _ := Exact(o, l, coords)
		wasX, wasY := texts(t, x), texts(t, y)
		fractions := slices.Concat(x, y)
		scribble(x, ratio.Whole(99))
		if !slices.Equal(texts(t, y), wasY) {
			t.Error("the two lists share memory")
		}
		was := slices.Concat(wasX, wasY)
		for i, z := range fractions {
			scribble(z.Num, 77)
			scribble(z.Den, 99)
			for k := i + 1; k < len(fractions); k++ {
				if ratio.Text(fractions[k]) != was[k] {
					t.Fatal("fractions", i, k, "share memory")
				}
			}
		}
		if !sameOutline(o, square()) || !alike(l, mixed()) {
			t.Error("arguments share memory with the answer")
		}
		expectAt(t, o, l, coords)
	}
}

func TestOutlinesAreNew(t *testing.T) {
	for _, was := range []api.Outline{square(), threeParts()} {
		o := api.Outline{Parts: slices.Clone(was.Parts)}
		for _, c := range was.Contours {
			o.Contours = append(o.Contours, slices.Clone(c))
		}
		p, e := At(o, nil, []int{5})
		if e != api.OK || !sameOutline(p, was) {
			t.Error(p, e)
		}
		for i, c := range p.Contours {
			scribble(c, api.Point{X: 99})
			for k := i + 1; k < len(p.Contours); k++ {
				if !slices.Equal(p.Contours[k], was.Contours[k]) {
					t.Error("two contours share memory")
				}
			}
		}
		scribble(p.Contours, nil)
		scribble(p.Parts, api.Part{Glyph: 99})
		if !sameOutline(o, was) {
			t.Error("the outline shares memory with the answer:", o)
		}
	}
}

func TestReadIsNew(t *testing.T) {
	b := table(mixed())
	l, _ := Read(b, square(), 2)
	scribble(b, 77)
	if !alike(l, mixed()) {
		t.Error("the bytes are kept")
	}
	for i := range l {
		was := mixed()[i]
		scribble(l[i].Region, api.Tent{Peak: 99})
		if scribble(l[i].Points, 99); !slices.Equal(l[i].DX, was.DX) {
			t.Error("lists share memory")
		}
		if scribble(l[i].DX, 99); !slices.Equal(l[i].DY, was.DY) {
			t.Error("lists share memory")
		}
		scribble(l[i].DY, 99)
		if !alike(l[i+1:], mixed()[i+1:]) {
			t.Error("tuples share memory")
		}
	}
	one, _ := Write(square(), mixed(), 2)
	scribble(one, 77)
	if two, _ := Write(square(), mixed(), 2); !bytes.Equal(two, table(mixed())) {
		t.Error("two answers share memory")
	}
}

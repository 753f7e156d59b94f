package outline

import (
	"bytes"
	"encoding/binary"
	"math"
	"math/rand"
	"slices"
	"testing"

	"foundry/api"
	"foundry/octets"
)

// at is a point that is On; off is one that isn't.
func at(x, y int) api.Point  { return api.Point{X: x, Y: y, On: true} }
func off(x, y int) api.Point { return api.Point{X: x, Y: y} }

// drawn is an outline of these contours.
func drawn(contours ...[]api.Point) api.Outline { return api.Outline{Contours: contours} }

// made is an outline of these parts.
func made(parts ...api.Part) api.Outline { return api.Outline{Parts: parts} }

// many is n points of one place.
func many(p api.Point, n int) []api.Point { return slices.Repeat([]api.Point{p}, n) }

// same: a list of no elements may be nil or empty.
func same(a, b api.Outline) bool {
	return slices.EqualFunc(a.Contours, b.Contours, slices.Equal) && slices.Equal(a.Parts, b.Parts)
}

// copied is o in memory of its own.
func copied(o api.Outline) api.Outline {
	c := api.Outline{Parts: slices.Clone(o.Parts)}
	for _, contour := range o.Contours {
		c.Contours = append(c.Contours, slices.Clone(contour))
	}
	return c
}

func inField(n int) bool { return n >= -32768 && n <= 32767 }

// formed is what the chapter says of an outline.
func formed(o api.Outline) bool {
	if len(o.Contours) > 0 && len(o.Parts) > 0 || len(o.Contours) > 10 || len(o.Parts) > 6 {
		return false
	}
	n := 0
	for _, c := range o.Contours {
		if len(c) == 0 {
			return false
		}
		for _, p := range c {
			n++
			if !inField(p.X) || !inField(p.Y) {
				return false
			}
		}
	}
	for _, p := range o.Parts {
		if p.Glyph < 0 || p.Glyph > 65535 || !inField(p.DX) || !inField(p.DY) {
			return false
		}
	}
	return n <= 80
}

func two(n int) []byte { return binary.BigEndian.AppendUint16(nil, uint16(n)) }

// told is the bytes of a difference, and the two bits of its flag: that it is short, and that it is 0 or above.
func told(d int) (b []byte, short, up bool) {
	switch {
	case d == 0:
		return nil, false, true
	case d >= 1 && d <= 255:
		return []byte{byte(d)}, true, true
	case d <= -1 && d >= -255:
		return []byte{byte(-d)}, true, false
	}
	return two(d), false, false
}

// written is what the chapter says of the bytes of a formed outline; false, if a difference is no field.
func written(o api.Outline) ([]byte, bool) {
	if len(o.Parts) > 0 {
		b := append([]byte{255, 255}, two(len(o.Parts))...)
		for _, p := range o.Parts {
			b = slices.Concat(b, two(p.Glyph), two(p.DX), two(p.DY))
		}
		return b, true
	}
	b := two(len(o.Contours))
	var flags, xs, ys []byte
	var last api.Point
	n, ok := 0, true
	for _, c := range o.Contours {
		n += len(c)
		b = append(b, two(n-1)...)
		for _, p := range c {
			x, shortX, upX := told(p.X - last.X)
			y, shortY, upY := told(p.Y - last.Y)
			ok = ok && inField(p.X-last.X) && inField(p.Y-last.Y)
			flag := byte(0)
			for i, bit := range []bool{p.On, shortX, shortY, false, upX, upY} {
				if bit {
					flag += 1 << i
				}
			}
			flags, xs, ys = append(flags, flag), append(xs, x...), append(ys, y...)
			last = p
		}
	}
	return slices.Concat(b, shortened(flags), xs, ys), ok
}

// shortened is what is written of flags.
func shortened(flags []byte) []byte {
	var b []byte
	for i := 0; i < len(flags); i++ {
		n := 0
		for n < 255 && i+1 < len(flags) && flags[i+1] == flags[i] {
			n, i = n+1, i+1
		}
		if n == 0 {
			b = append(b, flags[i])
		} else {
			b = append(b, flags[i]+8, byte(n))
		}
	}
	return b
}

// expect fails unless Formed and Write answer of o what the chapter says, and what is written is read as it was.
func expect(t *testing.T, o api.Outline) {
	t.Helper()
	if Formed(o) != formed(o) {
		t.Fatalf("Formed(%v): %v", o, Formed(o))
	}
	want, wrong := []byte(nil), api.ErrForm
	if formed(o) {
		var ok bool
		if want, ok = written(o); ok {
			wrong = api.OK
		} else {
			want, wrong = nil, api.ErrRange
		}
	}
	b, e := Write(o)
	if e != wrong || !bytes.Equal(b, want) {
		t.Fatalf("Write(%v): %x, error %d; not %x, error %d", o, b, e, want, wrong)
	}
	if e != api.OK {
		return
	}
	if p, e := Read(b); e != api.OK || !same(p, o) {
		t.Fatalf("%v is read as %v, error %d", o, p, e)
	}
}

// expectBad fails unless Read answers ErrBad, and an outline of nothing.
func expectBad(t *testing.T, b []byte) {
	t.Helper()
	if o, e := Read(b); e != api.ErrBad || len(o.Contours) != 0 || len(o.Parts) != 0 {
		t.Errorf("%x: %v, error %d", b, o, e)
	}
}

// scanner gives bytes from the front, and remembers if anything was wrong.
type scanner struct {
	rest []byte
	bad  bool
}

func (s *scanner) byte() int {
	if len(s.rest) == 0 {
		s.bad = true
		return 0
	}
	n := int(s.rest[0])
	s.rest = s.rest[1:]
	return n
}

func (s *scanner) word() int {
	high := s.byte()
	return high<<8 | s.byte()
}

func (s *scanner) signed() int { return int(int16(s.word())) }

func (s *scanner) must(ok bool) { s.bad = s.bad || !ok }

// difference is one of which a flag tells, and no other flag could.
func (s *scanner) difference(short, up bool) int {
	switch {
	case short:
		n := s.byte()
		s.must(n != 0)
		if !up {
			return -n
		}
		return n
	case up:
		return 0
	}
	n := s.signed()
	s.must(n < -255 || n > 255)
	return n
}

// flags are those of n points, each repeated as often as may be.
func (s *scanner) flags(n int) []int {
	var l []int
	for len(l) < n && !s.bad {
		flag, more := s.byte(), 0
		if flag&8 != 0 {
			more = s.byte()
			s.must(more > 0)
		}
		flag &^= 8
		s.must(flag < 64 && len(l)+1+more <= n)
		// There are too few points for a flag that is repeated 255 times.
		s.must(len(l) == 0 || l[len(l)-1] != flag)
		l = append(l, slices.Repeat([]int{flag}, 1+more)...)
	}
	return l
}

// contours are the n of an outline.
func (s *scanner) contours(n int) [][]api.Point {
	s.must(n >= 0 && n <= 10)
	count := 0
	var sizes []int
	for i := 0; i < n && !s.bad; i++ {
		next := s.word() + 1
		s.must(next > count && next <= 80)
		sizes = append(sizes, next-count)
		count = next
	}
	if s.bad {
		return nil
	}
	flags := s.flags(count)
	if s.bad {
		return nil
	}
	points := make([]api.Point, count)
	var last api.Point
	for i, flag := range flags {
		last.X += s.difference(flag&2 != 0, flag&16 != 0)
		s.must(inField(last.X))
		points[i] = api.Point{X: last.X, On: flag&1 != 0}
	}
	for i, flag := range flags {
		last.Y += s.difference(flag&4 != 0, flag&32 != 0)
		s.must(inField(last.Y))
		points[i].Y = last.Y
	}
	var l [][]api.Point
	for _, size := range sizes {
		l = append(l, points[:size])
		points = points[size:]
	}
	return l
}

// readOf is what the chapter says of bytes, step by step; Read writes what it read instead.
func readOf(b []byte) (api.Outline, bool) {
	s := &scanner{rest: b}
	var o api.Outline
	n := s.signed()
	if n == -1 {
		parts := s.word()
		s.must(parts >= 1 && parts <= 6)
		for i := 0; i < parts && !s.bad; i++ {
			var p api.Part
			p.Glyph, p.DX, p.DY = s.word(), s.signed(), s.signed()
			o.Parts = append(o.Parts, p)
		}
	} else {
		o.Contours = s.contours(n)
	}
	if s.bad || len(s.rest) > 0 {
		return api.Outline{}, false
	}
	return o, true
}

// expectRead fails unless Read answers of b what the chapter says; it answers whether b was an outline's.
func expectRead(t *testing.T, b []byte) bool {
	t.Helper()
	want, right := readOf(b)
	o, e := Read(b)
	if right != (e == api.OK) || !right && e != api.ErrBad || !same(o, want) {
		t.Fatalf("%x: %v, error %d; not %v, %v", b, o, e, want, right)
	}
	if !right {
		return false
	}
	if again, e := Write(o); e != api.OK || !bytes.Equal(again, b) {
		t.Fatalf("%x is written as %x, error %d", b, again, e)
	}
	return true
}

func TestOfTheChapter(t *testing.T) {
	o := drawn([]api.Point{at(10, 0), at(10, 300)})
	bytesOf := []byte{0, 1, 0, 1, 51, 17, 10, 1, 44}
	if b, e := Write(o); e != api.OK || !bytes.Equal(b, bytesOf) {
		t.Error(b, e)
	}
	if p, e := Read(bytesOf); e != api.OK || !same(p, o) {
		t.Error(p, e)
	}
}

func TestKnownBytes(t *testing.T) {
	for _, c := range []struct {
		name string
		o    api.Outline
		b    []byte
	}{
		{"nothing", api.Outline{}, []byte{0, 0}},
		{"a point at 0, On", drawn([]api.Point{at(0, 0)}), []byte{0, 1, 0, 0, 49}},
		{"one that isn't", drawn([]api.Point{off(0, 0)}), []byte{0, 1, 0, 0, 48}},
		{"short, above 0", drawn([]api.Point{off(255, 1)}), []byte{0, 1, 0, 0, 54, 255, 1}},
		{"short, below 0", drawn([]api.Point{off(-255, -1)}), []byte{0, 1, 0, 0, 6, 255, 1}},
		{"long, above 0", drawn([]api.Point{off(256, 32767)}), []byte{0, 1, 0, 0, 0, 1, 0, 127, 255}},
		{"long, below 0", drawn([]api.Point{at(-256, -32768)}), []byte{0, 1, 0, 0, 1, 255, 0, 128, 0}},
		{"X short, Y long", drawn([]api.Point{at(-3, 500)}), []byte{0, 1, 0, 0, 3, 3, 1, 244}},
		{"X long, Y short", drawn([]api.Point{at(500, 3)}), []byte{0, 1, 0, 0, 37, 1, 244, 3}},
		{"X 0, Y short", drawn([]api.Point{off(0, -9)}), []byte{0, 1, 0, 0, 20, 9}},
		{"a flag once more", drawn([]api.Point{at(1, 2), at(3, 5)}), []byte{0, 1, 0, 1, 63, 1, 1, 2, 2, 3}},
		{"a flag twice more", drawn([]api.Point{at(1, 2), at(3, 5), at(6, 9)}), []byte{0, 1, 0, 2, 63, 2, 1, 2, 3, 2, 3, 4}},
		{"runs of flags", drawn([]api.Point{at(0, 0), at(0, 0), off(0, 0), off(0, 0), off(0, 0), at(0, 0)}), []byte{0, 1, 0, 5, 57, 1, 56, 2, 49}},
		{"the point ahead is another contour's", drawn([]api.Point{at(300, 40)}, []api.Point{at(290, 40)}), []byte{0, 2, 0, 0, 0, 1, 37, 35, 1, 44, 10, 40}},
		{"a flag's run goes on in the next contour", drawn([]api.Point{at(1, 1)}, []api.Point{at(2, 2), at(3, 3)}), []byte{0, 2, 0, 0, 0, 2, 63, 2, 1, 1, 1, 1, 1, 1}},
		{"a part", made(api.Part{Glyph: 3, DX: -1, DY: 2}), []byte{255, 255, 0, 1, 0, 3, 255, 255, 0, 2}},
		{"parts", made(api.Part{Glyph: 65535, DX: 32767, DY: -32768}, api.Part{}), []byte{255, 255, 0, 2, 255, 255, 127, 255, 128, 0, 0, 0, 0, 0, 0, 0}},
	} {
		b, e := Write(c.o)
		if e != api.OK || !bytes.Equal(b, c.b) {
			t.Errorf("%s: %v, error %d; not %v", c.name, b, e, c.b)
		}
		if o, e := Read(c.b); e != api.OK || !same(o, c.o) {
			t.Errorf("%s: %v, error %d", c.name, o, e)
		}
	}
}

func TestNothing(t *testing.T) {
	for _, o := range []api.Outline{{}, {Contours: [][]api.Point{}}, {Parts: []api.Part{}}, {Contours: [][]api.Point{}, Parts: []api.Part{}}} {
		expect(t, o)
		if !Formed(o) || len(Points(o)) != 0 || len(Ends(o)) != 0 {
			t.Error(o)
		}
		if b, e := Write(o); e != api.OK || !bytes.Equal(b, []byte{0, 0}) {
			t.Error(b, e)
		}
	}
	if o, e := Read([]byte{0, 0}); e != api.OK || len(o.Contours) != 0 || len(o.Parts) != 0 {
		t.Error(o, e)
	}
}

// edges lie about the limits of fields, and far out.
func edges() []int {
	return []int{0, 1, -1, 255, 256, -255, -256, 32766, 32767, 32768, -32767, -32768, -32769, 65535, 65536, -65536, 1 << 31, 1 << 32, 1<<32 + 7, 1 << 40, math.MaxInt, math.MinInt}
}

func TestFormedAtItsEdges(t *testing.T) {
	for _, n := range edges() {
		for _, o := range []api.Outline{
			drawn([]api.Point{at(n, 0)}), drawn([]api.Point{at(0, n)}), drawn([]api.Point{off(n, n)}), drawn([]api.Point{at(1, 1)}, []api.Point{at(2, 2), off(n, 3)}),
			made(api.Part{DX: n}), made(api.Part{DY: n}), made(api.Part{Glyph: n}), made(api.Part{Glyph: 1}, api.Part{Glyph: 2, DX: 3, DY: n}),
		} {
			expect(t, o)
		}
	}
	for n := range 20 {
		expect(t, drawn(slices.Repeat([][]api.Point{{at(3, 4)}}, n)...))
		expect(t, made(slices.Repeat([]api.Part{{Glyph: 7, DX: 1, DY: -1}}, n)...))
		expect(t, drawn(many(at(5, 5), 70), many(off(1, 1), n)))
	}
	for n := range 170 {
		expect(t, drawn(many(at(n, -n), n)))
	}
}

func TestFormed(t *testing.T) {
	point, part := []api.Point{at(1, 1)}, api.Part{Glyph: 1}
	for name, c := range map[string]struct {
		o    api.Outline
		want bool
	}{
		"both":                      {api.Outline{Contours: [][]api.Point{point}, Parts: []api.Part{part}}, false},
		"parts, an empty contour":   {api.Outline{Contours: [][]api.Point{{}}, Parts: []api.Part{part}}, false},
		"an empty contour":          {drawn([]api.Point{}), false},
		"nil as a contour":          {drawn(nil), false},
		"an empty one in the midst": {drawn(point, nil, point), false},
		"an empty one at the end":   {drawn(point, point, nil), false},
		"10 contours":               {drawn(slices.Repeat([][]api.Point{point}, 10)...), true},
		"11 contours":               {drawn(slices.Repeat([][]api.Point{point}, 11)...), false},
		"80 points":                 {drawn(many(at(0, 0), 80)), true},
		"81 points":                 {drawn(many(at(0, 0), 81)), false},
		"80 points in two contours": {drawn(many(at(0, 0), 79), point), true},
		"81 points in two contours": {drawn(many(at(0, 0), 80), point), false},
		"6 parts":                   {made(slices.Repeat([]api.Part{part}, 6)...), true},
		"7 parts":                   {made(slices.Repeat([]api.Part{part}, 7)...), false},
		"a glyph below 0":           {made(api.Part{Glyph: -1}), false},
		"the last glyph":            {made(api.Part{Glyph: 65535}), true},
		"a glyph above that":        {made(api.Part{Glyph: 65536}), false},
	} {
		if Formed(c.o) != c.want {
			t.Error(name)
		}
		b, e := Write(c.o)
		if c.want && e != api.OK || !c.want && (e != api.ErrForm || len(b) != 0) {
			t.Errorf("%s: %x, error %d", name, b, e)
		}
	}
}

func TestDifferencesAtTheirEdges(t *testing.T) {
	for _, d := range []int{0, 1, 2, 254, 255, 256, 257, 511, 512, 32766, 32767, 32768, 40000, 65535} {
		for _, sign := range []int{1, -1} {
			for _, from := range []int{0, 1, 100, 32767, 20000} {
				a := -sign * from
				o := drawn([]api.Point{at(a, 0), at(a+sign*d, 0), at(a, 0)}, []api.Point{off(a, a), off(a, a+sign*d)})
				expect(t, o)
			}
		}
	}
}

func TestRange(t *testing.T) {
	for i, c := range []struct {
		o    api.Outline
		want api.Errno
	}{
		{drawn([]api.Point{at(32767, 0), at(0, 0)}), api.OK},
		{drawn([]api.Point{at(-1, 0), at(32766, 0)}), api.OK},
		{drawn([]api.Point{at(-1, 0), at(32767, 0)}), api.ErrRange},
		{drawn([]api.Point{at(32767, 0), at(-1, 0)}), api.OK},
		{drawn([]api.Point{at(32767, 0), at(-2, 0)}), api.ErrRange},
		{drawn([]api.Point{at(0, -1), at(0, 32767)}), api.ErrRange},
		{drawn([]api.Point{at(0, 32767), at(0, -1)}), api.OK},
		{drawn([]api.Point{at(0, 32767), at(0, -2)}), api.ErrRange},
		{drawn([]api.Point{at(32767, 32767)}, []api.Point{at(-2, 0)}), api.ErrRange},
		{drawn([]api.Point{at(-32768, 0), at(32767, 0)}), api.ErrRange},
		{drawn([]api.Point{at(-32768, 0), at(32768, 0)}), api.ErrForm},
		{drawn([]api.Point{at(-32768, 0), at(32767, 0)}, nil), api.ErrForm},
		{drawn(append(many(at(-32768, 0), 80), at(32767, 0))), api.ErrForm},
		{made(api.Part{DX: -32768, DY: 32767}, api.Part{DX: 32767, DY: -32768}), api.OK},
	} {
		b, e := Write(c.o)
		if e != c.want || e != api.OK && len(b) != 0 {
			t.Errorf("%d: %x, error %d, not %d", i, b, e, c.want)
		}
		expect(t, c.o)
	}
}

func TestPointsAndEnds(t *testing.T) {
	a, b, c := at(1, 2), off(3, 4), at(1<<40, math.MinInt)
	for i, x := range []struct {
		o      api.Outline
		points []api.Point
		ends   []int
	}{
		{api.Outline{}, nil, nil},
		{made(api.Part{Glyph: 3}), nil, nil},
		{drawn([]api.Point{a}), []api.Point{a}, []int{0}},
		{drawn([]api.Point{a, b}, []api.Point{b, c, a}), []api.Point{a, b, b, c, a}, []int{1, 4}},
		{drawn([]api.Point{c}, []api.Point{b}, []api.Point{a}), []api.Point{c, b, a}, []int{0, 1, 2}},
		{drawn([]api.Point{a}, nil, []api.Point{b, b}, nil), []api.Point{a, b, b}, []int{0, 0, 2, 2}},
		{drawn(nil, []api.Point{a}), []api.Point{a}, []int{-1, 0}},
		{api.Outline{Contours: [][]api.Point{{a, c}}, Parts: []api.Part{{}}}, []api.Point{a, c}, []int{1}},
		{drawn(many(b, 300), many(a, 200)), slices.Concat(many(b, 300), many(a, 200)), []int{299, 499}},
	} {
		if l := Points(x.o); !slices.Equal(l, x.points) {
			t.Errorf("%d: points %v", i, l)
		}
		if l := Ends(x.o); !slices.Equal(l, x.ends) {
			t.Errorf("%d: ends %v", i, l)
		}
	}
}

func TestBox(t *testing.T) {
	for i, c := range []struct {
		o   api.Outline
		box [4]int
		ok  bool
	}{
		{api.Outline{}, [4]int{}, false},
		{drawn(nil, nil), [4]int{}, false},
		{made(api.Part{Glyph: 3, DX: 5, DY: 6}), [4]int{}, false},
		{drawn([]api.Point{at(0, 0)}), [4]int{}, true},
		{drawn([]api.Point{at(7, -3)}), [4]int{7, -3, 7, -3}, true},
		{drawn([]api.Point{at(5, 6), off(-5, 60)}), [4]int{-5, 6, 5, 60}, true},
		{drawn([]api.Point{at(10, 20)}, nil, []api.Point{at(12, 15)}, []api.Point{off(11, 40), off(9, 30)}), [4]int{9, 15, 12, 40}, true},
		{drawn([]api.Point{at(-10, -20), at(-30, -5)}), [4]int{-30, -20, -10, -5}, true},
		{drawn([]api.Point{at(math.MaxInt, 0), at(1, math.MinInt)}), [4]int{1, math.MinInt, math.MaxInt, 0}, true},
		{api.Outline{Contours: [][]api.Point{{at(3, 4)}}, Parts: []api.Part{{DX: 90}}}, [4]int{3, 4, 3, 4}, true},
		{drawn(append(many(at(1, 1), 100), at(0, 9))), [4]int{0, 1, 1, 9}, true},
	} {
		if box, ok := Box(c.o); box != c.box || ok != c.ok {
			t.Errorf("%d: %v, %v", i, box, ok)
		}
	}
}

// TestManyFlags: more of them than an outline may have points.
func TestManyFlags(t *testing.T) {
	for _, n := range []int{0, 1, 2, 254, 255, 256, 257, 258, 300, 510, 511, 512, 513, 514, 1000} {
		page := &octets.Page{}
		putFlags(page, append(slices.Repeat([]int{49}, n), 1, 49, 49))
		want := shortened(append(bytes.Repeat([]byte{49}, n), 1, 49, 49))
		if b, e := page.All(); e != api.OK || !bytes.Equal(b, want) {
			t.Errorf("%d: %v, error %d; not %v", n, b, e, want)
		}
	}
	page := &octets.Page{}
	putFlags(page, slices.Repeat([]int{49}, 257))
	if b, _ := page.All(); !bytes.Equal(b, []byte{57, 255, 49}) {
		t.Error(b)
	}
}

func TestWrongBytes(t *testing.T) {
	for name, b := range map[string][]byte{
		"none":                            nil,
		"one":                             {0},
		"behind nothing more":             {0, 0, 0},
		"contours that lack":              {0, 1},
		"half an end":                     {0, 1, 0},
		"-2 contours":                     {255, 254, 0, 1, 0, 3, 0, 1, 0, 2},
		"-32768 contours":                 {128, 0},
		"no parts":                        {255, 255, 0, 0},
		"parts that lack":                 {255, 255, 0, 1},
		"how many parts lacks":            {255, 255},
		"a byte too few":                  {255, 255, 0, 1, 0, 3, 0, 1, 0},
		"a byte too many":                 {255, 255, 0, 1, 0, 3, 0, 1, 0, 2, 0},
		"a part too few":                  {255, 255, 0, 2, 0, 3, 0, 1, 0, 2},
		"7 parts":                         append([]byte{255, 255, 0, 7}, make([]byte, 42)...),
		"65535 parts":                     append([]byte{255, 255, 255, 255}, make([]byte, 65535*6)...),
		"no flag":                         {0, 1, 0, 0},
		"X lacks":                         {0, 1, 0, 0, 35},
		"half of X":                       {0, 1, 0, 0, 33, 1},
		"Y lacks":                         {0, 1, 0, 0, 55, 5},
		"half of Y":                       {0, 1, 0, 0, 17, 1},
		"a byte behind a point":           {0, 1, 0, 0, 49, 0},
		"64 in a flag":                    {0, 1, 0, 0, 49 + 64},
		"128 in a flag":                   {0, 1, 0, 0, 49 + 128},
		"X of 0, short and above 0":       {0, 1, 0, 0, 51, 0},
		"X of 0, short and below 0":       {0, 1, 0, 0, 35, 0},
		"X of 0, long":                    {0, 1, 0, 0, 33, 0, 0},
		"Y of 0, short and above 0":       {0, 1, 0, 0, 53, 0},
		"Y of 0, long":                    {0, 1, 0, 0, 17, 0, 0},
		"X of 255, long":                  {0, 1, 0, 0, 33, 0, 255},
		"X of -255, long":                 {0, 1, 0, 0, 33, 255, 1},
		"Y of 255, long":                  {0, 1, 0, 0, 17, 0, 255},
		"Y of -1, long":                   {0, 1, 0, 0, 17, 255, 255},
		"the same flags one by one":       {0, 1, 0, 1, 49, 49},
		"one of them behind a run":        {0, 1, 0, 2, 57, 1, 49},
		"one of them ahead of a run":      {0, 1, 0, 2, 49, 57, 1},
		"two runs of one flag":            {0, 1, 0, 3, 57, 1, 57, 1},
		"a run of one, of none more":      {0, 1, 0, 0, 57, 0},
		"a run that is too long":          {0, 1, 0, 1, 57, 2},
		"a run of 256 flags":              {0, 1, 0, 1, 57, 255},
		"a run whose number lacks":        {0, 1, 0, 1, 57},
		"an end twice":                    {0, 2, 0, 0, 0, 0, 49},
		"ends that fall":                  {0, 2, 0, 1, 0, 0, 57, 1},
		"an empty contour at the end":     {0, 2, 0, 1, 0, 1, 57, 1},
		"an end that isn't the last one":  {0, 2, 0, 5, 0, 1, 57, 5},
		"81 points":                       {0, 1, 0, 80, 57, 80},
		"65536 points":                    {0, 1, 255, 255, 57, 255},
		"ends beyond, the last one right": {0, 2, 255, 255, 0, 1, 57, 1},
		"X leaves its field":              {0, 1, 0, 1, 33 + 8, 1, 127, 255, 127, 255},
		"X leaves it by 1":                {0, 1, 0, 1, 33, 51, 127, 255, 1},
		"X leaves it below":               {0, 1, 0, 1, 33, 35, 128, 0, 1},
		"Y leaves it by 1":                {0, 1, 0, 1, 17, 53, 127, 255, 1},
		"Y leaves it below":               {0, 1, 0, 1, 17, 21, 128, 0, 1},
	} {
		t.Run(name, func(t *testing.T) {
			expectBad(t, b)
			expectRead(t, b)
		})
	}
}

func TestCountsThatAreWrong(t *testing.T) {
	for n := range 30 {
		ends := two(n)
		for i := range n {
			ends = append(ends, two(i)...)
		}
		b := slices.Concat(ends, shortened(bytes.Repeat([]byte{49}, n)))
		if right := expectRead(t, b); right != (n <= 10) {
			t.Error(n, right)
		}
	}
	for n := range 200 {
		b := []byte{0, 1, 0, byte(n), 57, byte(n)}
		if n == 0 {
			b = []byte{0, 1, 0, 0, 49}
		}
		if right := expectRead(t, b); right != (n < 80) {
			t.Error(n, right)
		}
	}
	for n := range 30 {
		b := append([]byte{255, 255, 0, byte(n)}, make([]byte, 6*n)...)
		if right := expectRead(t, b); right != (n >= 1 && n <= 6) {
			t.Error(n, right)
		}
	}
}

// TestFewBytes: all flags, and many bytes behind them.
func TestFewBytes(t *testing.T) {
	right := 0
	some := []byte{0, 1, 2, 44, 127, 128, 254, 255}
	for flag := range 256 {
		for _, head := range [][]byte{{0, 1, 0, 0}, {0, 1, 0, 1}, {0, 2, 0, 0, 0, 1}, {255, 255, 0, 1}} {
			for n := range 5 {
				for code := range 1 << (3 * n) {
					// Of the longest ones some will do, other ones for each flag.
					if n == 4 && code%17 != flag%17 {
						continue
					}
					b := append(slices.Clone(head), byte(flag))
					for i := range n {
						b = append(b, some[code>>(3*i)&7])
					}
					if expectRead(t, b) {
						right++
					}
				}
			}
		}
	}
	if right < 3000 {
		t.Error("too few right ones:", right)
	}
}

func TestFirstWords(t *testing.T) {
	for n := range 65536 {
		expectRead(t, two(n))
		expectRead(t, append(two(n), 0, 0, 49))
		expectRead(t, append([]byte{0, 1}, append(two(n), 49)...))
		expectRead(t, append([]byte{0, 1, 0, 0, 33}, two(n)...))
	}
}

// size is a coordinate, near to another one or far from it.
func size(r *rand.Rand, near int) int {
	switch r.Intn(6) {
	case 0:
		return near
	case 1:
		return near + r.Intn(511) - 255
	case 2:
		return near + 254 + r.Intn(4)
	case 3:
		return near - 254 - r.Intn(4)
	case 4:
		return r.Intn(2000) - 1000
	}
	return (r.Intn(65536) - 32768) >> r.Intn(6)
}

// outlineAny is an outline that is nearly always formed.
func outlineAny(r *rand.Rand) api.Outline {
	var o api.Outline
	if r.Intn(5) == 0 {
		for range r.Intn(8) {
			o.Parts = append(o.Parts, api.Part{Glyph: r.Intn(65536) >> r.Intn(16), DX: size(r, 0), DY: size(r, 0)})
		}
		return o
	}
	var last api.Point
	longest := 1 + r.Intn(20)
	for range r.Intn(11) {
		var c []api.Point
		for range 1 + r.Intn(longest) {
			if r.Intn(3) > 0 {
				last = api.Point{X: size(r, last.X), Y: size(r, last.Y), On: r.Intn(2) == 0}
			}
			last.X, last.Y = min(max(last.X, -32768), 32767), min(max(last.Y, -32768), 32767)
			c = append(c, last)
		}
		o.Contours = append(o.Contours, c)
	}
	return o
}

func TestThereAndBack(t *testing.T) {
	r := rand.New(rand.NewSource(1))
	count := map[api.Errno]int{}
	for range 20000 {
		o := outlineAny(r)
		expect(t, o)
		_, e := Write(o)
		count[e]++
	}
	if count[api.OK] < 5000 || count[api.ErrForm] < 500 || count[api.ErrRange] < 500 {
		t.Error("too few of one kind:", count)
	}
}

func TestDrawnOutlinesThatAreWrong(t *testing.T) {
	r := rand.New(rand.NewSource(2))
	for range 10000 {
		o := outlineAny(r)
		if len(o.Contours) > 0 && r.Intn(3) > 0 {
			c := o.Contours[r.Intn(len(o.Contours))]
			c[r.Intn(len(c))].X *= r.Intn(70) - 35
			c[r.Intn(len(c))].Y *= r.Intn(70) - 35
		}
		if len(o.Parts) > 0 {
			p := &o.Parts[r.Intn(len(o.Parts))]
			p.Glyph, p.DX, p.DY = p.Glyph-r.Intn(9), p.DX*(r.Intn(9)-4), p.DY*(r.Intn(9)-4)
		}
		if r.Intn(9) == 0 {
			o.Contours = append(o.Contours, nil)
		}
		if r.Intn(9) == 0 {
			o.Parts = append(o.Parts, api.Part{})
		}
		expect(t, o)
	}
}

// TestTurnedBytes: of an outline's bytes each is cut off, turned, doubled or left out.
func TestTurnedBytes(t *testing.T) {
	r := rand.New(rand.NewSource(3))
	right, wrong := 0, 0
	look := func(b []byte) {
		if expectRead(t, b) {
			right++
		} else {
			wrong++
		}
	}
	for range 100 {
		b, e := Write(outlineAny(r))
		if e != api.OK {
			continue
		}
		for i := range b {
			expectBad(t, b[:i])
			turned := slices.Clone(b)
			for range 8 {
				turned[i] = byte(r.Intn(256))
				look(turned)
			}
			for bit := range 8 {
				turned[i] = b[i] ^ 1<<bit
				look(turned)
			}
			look(slices.Insert(slices.Clone(b), i, b[i]))
			look(slices.Delete(slices.Clone(b), i, i+1))
		}
		expectBad(t, append(slices.Clone(b), 0))
		expectBad(t, append(slices.Clone(b), 49, 1))
	}
	if right < 5000 || wrong < 5000 {
		t.Error("too few of one kind:", right, wrong)
	}
}

func TestDrawnBytes(t *testing.T) {
	r := rand.New(rand.NewSource(4))
	for range 100000 {
		b := make([]byte, r.Intn(40))
		r.Read(b)
		head := [][]byte{{0, 1, 0, byte(r.Intn(6))}, {0, 2, 0, byte(r.Intn(3)), 0, byte(r.Intn(6))}, {255, 255, 0, byte(r.Intn(8))}, nil}[r.Intn(4)]
		for i := range b {
			if r.Intn(3) > 0 {
				b[i] &= 63
			}
		}
		expectRead(t, append(head, b...))
	}
}

// roomy is l with more room behind it, filled with x.
func roomy[T any](l []T, x T) []T {
	return append(slices.Clone(l), x, x, x)[:len(l)]
}

// scribble fills a list, and the room behind it, with x.
func scribble[T any](l []T, x T) {
	for i := range l[:cap(l)] {
		l[:cap(l)][i] = x
	}
}

func TestArgumentsAreLeft(t *testing.T) {
	spare, other := at(77, 77), api.Part{Glyph: 77}
	contours := [][]api.Point{{at(1, 2), off(300, 4)}, {at(5, -6), at(5, 6)}}
	o := drawn(roomy([][]api.Point{roomy(contours[0], spare), roomy(contours[1], spare)}, many(spare, 2))...)
	p := made(roomy([]api.Part{{Glyph: 1, DX: 2, DY: 3}, {Glyph: 4}}, other)...)
	for _, x := range []api.Outline{o, p} {
		Formed(x)
		Points(x)
		Ends(x)
		Box(x)
		b, _ := Write(x)
		b = roomy(b, 77)
		left := slices.Clone(b[:cap(b)])
		Read(b)
		Read(b[:len(b)-1])
		if !bytes.Equal(b[:cap(b)], left) {
			t.Error(b[:cap(b)])
		}
	}
	for i, c := range o.Contours[:2] {
		if !slices.Equal(c[:5], append(slices.Clone(contours[i]), spare, spare, spare)) {
			t.Error(c[:5])
		}
	}
	for _, c := range o.Contours[:5][2:] {
		if !slices.Equal(c, many(spare, 2)) {
			t.Error(c)
		}
	}
	if !slices.Equal(p.Parts[:5], []api.Part{{Glyph: 1, DX: 2, DY: 3}, {Glyph: 4}, other, other, other}) {
		t.Error(p.Parts[:5])
	}
}

func TestAnswersAreNew(t *testing.T) {
	for _, o := range []api.Outline{
		drawn([]api.Point{at(1, 2), off(300, 4)}), drawn([]api.Point{at(1, 2)}, []api.Point{at(3, 4), at(5, 6), at(7, 8)}, []api.Point{at(9, 9)}), made(api.Part{Glyph: 1, DX: 2, DY: 3}, api.Part{}),
	} {
		was := copied(o)
		scribble(Points(o), at(77, 77))
		scribble(Ends(o), 77)
		if !same(o, was) {
			t.Error(o, was)
		}
		b, _ := Write(o)
		p, _ := Read(b)
		q, _ := Read(b)
		scribble(b, 77)
		if !same(p, o) || !same(o, was) {
			t.Error(p, o)
		}
		for i, c := range q.Contours {
			scribble(c, at(77, 77))
			if rest := q.Contours[i+1:]; !slices.EqualFunc(rest, o.Contours[i+1:], slices.Equal) {
				t.Error("two contours share memory:", rest)
			}
		}
		scribble(q.Parts, api.Part{Glyph: 77})
		if !same(p, was) || !same(o, was) {
			t.Error(p, o)
		}
		expect(t, o)
	}
}

package font

import (
	"bytes"
	"encoding/binary"
	"math"
	"math/rand"
	"reflect"
	"slices"
	"testing"

	"foundry/api"
)

// lookTable is what the chapter says of the bytes, by another library, whether the numbers fit or not.
func lookTable(l []api.Lookup) []byte {
	var b []byte
	put8 := func(n int) { b = append(b, byte(n)) }
	put16 := func(n int) { b = binary.BigEndian.AppendUint16(b, uint16(n)) }
	list := func(l []int) {
		put8(len(l))
		for _, n := range l {
			put16(n)
		}
	}
	put16(len(l))
	for _, x := range l {
		put8(x.Kind)
		if x.Skip {
			put8(1)
		} else {
			put8(0)
		}
		put16(len(x.Rules))
		for _, r := range x.Rules {
			list(r.In)
			list(r.Out)
			put8(r.At)
			put8(r.Look)
			for _, s := range []api.Slot{r.X, r.Y, r.W} {
				put16(s.Base)
				put16(s.Row)
			}
		}
	}
	return b
}

// isLookTable is whether b is just the bytes of lookups.
func isLookTable(b []byte) bool {
	whole := true
	cut := func(n int) []byte {
		if len(b) < n {
			whole, b = false, nil
			return make([]byte, n)
		}
		x := b[:n]
		b = b[n:]
		return x
	}
	next := func() int { return int(binary.BigEndian.Uint16(cut(2))) }
	lookups := next()
	for i := 0; i < lookups && whole; i++ {
		whole = cut(2)[1] <= 1 && whole
		rules := next()
		for j := 0; j < rules && whole; j++ {
			cut(2 * int(cut(1)[0]))
			cut(2 * int(cut(1)[0]))
			cut(14)
		}
		whole = whole && rules <= 40
	}
	return whole && len(b) == 0 && lookups <= 10
}

func expectLooks(t *testing.T, name string, l []api.Lookup) {
	t.Helper()
	b, e := Looks(l)
	if e != api.OK || !bytes.Equal(b, lookTable(l)) {
		t.Errorf("%s: Looks: %x, error %d", name, b, e)
	}
	expectReadLooks(t, name, b, l)
}

func expectReadLooks(t *testing.T, name string, b []byte, want []api.Lookup) {
	t.Helper()
	if l, e := ReadLooks(b); e != api.OK || !alike(l, want) {
		t.Errorf("%s: ReadLooks: %v, error %d", name, l, e)
	}
}

func expectNoLooks(t *testing.T, name string, l []api.Lookup) {
	t.Helper()
	if b, e := Looks(l); e != api.ErrForm || len(b) != 0 {
		t.Errorf("%s: Looks: %x, error %d", name, b, e)
	}
}

func expectBadLooks(t *testing.T, name string, b []byte) {
	t.Helper()
	if l, e := ReadLooks(b); e != api.ErrBad || len(l) != 0 {
		t.Errorf("%s: ReadLooks of %d bytes: %v, error %d", name, len(b), l, e)
	}
}

// TestLooksOfBytes is P24.2, byte by byte.
func TestLooksOfBytes(t *testing.T) {
	l := []api.Lookup{
		{Kind: 255, Rules: []api.Rule{
			{In: []int{65535, 0}, Out: []int{258}, At: 255, Look: 7, X: api.Slot{Base: -32768, Row: 32767}, Y: api.Slot{Base: -2, Row: api.None}, W: api.Slot{Base: 258, Row: -32768}},
			{},
		}},
		{Skip: true},
	}
	want := "\x00\x02" +
		"\xff\x00" + "\x00\x02" +
		"\x02\xff\xff\x00\x00" + "\x01\x01\x02" + "\xff\x07" + "\x80\x00\x7f\xff" + "\xff\xfe\xff\xff" + "\x01\x02\x80\x00" +
		"\x00" + "\x00" + "\x00\x00" + "\x00\x00\x00\x00" + "\x00\x00\x00\x00" + "\x00\x00\x00\x00" +
		"\x00\x01" + "\x00\x00"
	if b, e := Looks(l); e != api.OK || string(b) != want {
		t.Errorf("%x, error %d", b, e)
	}
	expectReadLooks(t, "these", []byte(want), l)
	if b, e := Looks(nil); e != api.OK || string(b) != "\x00\x00" {
		t.Errorf("none: %x, error %d", b, e)
	}
	expectReadLooks(t, "none", []byte("\x00\x00"), nil)
	expectLooks(t, "all kinds", full().Looks)
}

// ruled is one lookup of this rule.
func ruled(r api.Rule) []api.Lookup {
	return []api.Lookup{{Kind: 1, Rules: []api.Rule{r}}}
}

// TestLooksOfFields: each number at the edges of its field.
func TestLooksOfFields(t *testing.T) {
	octet := func(n int) bool { return n >= 0 && n <= 255 }
	glyph := func(n int) bool { return n >= 0 && n <= 65535 }
	field := func(n int) bool { return n >= -32768 && n <= 32767 }
	for _, n := range []int{0, 1, -1, 7, 8, 127, 128, -128, -129, 254, 255, 256, 257, 32767, 32768, -32768, -32769, 65534, 65535, 65536, -65536, 1 << 31, 1 << 32, 1<<32 + 1, math.MaxInt, math.MinInt} {
		slot := func(base bool) api.Slot {
			if base {
				return api.Slot{Base: n}
			}
			return api.Slot{Row: n}
		}
		for _, x := range []struct {
			name string
			l    []api.Lookup
			fits bool
		}{
			{"Kind", []api.Lookup{{Kind: n}}, octet(n)},
			{"Kind of the last", []api.Lookup{{Kind: 1}, {Kind: n}}, octet(n)},
			{"At", ruled(api.Rule{At: n}), octet(n)},
			{"Look", ruled(api.Rule{Look: n}), octet(n)},
			{"In", ruled(put([]int{n})), glyph(n)},
			{"In, the last", ruled(put([]int{1, 2, n})), glyph(n)},
			{"Out", ruled(put(nil, n)), glyph(n)},
			{"Out, the last", ruled(put([]int{1}, 2, 3, n)), glyph(n)},
			{"X's Base", ruled(api.Rule{X: slot(true)}), field(n)},
			{"X's Row", ruled(api.Rule{X: slot(false)}), field(n)},
			{"Y's Base", ruled(api.Rule{Y: slot(true)}), field(n)},
			{"Y's Row", ruled(api.Rule{Y: slot(false)}), field(n)},
			{"W's Base", ruled(api.Rule{W: slot(true)}), field(n)},
			{"W's Row", ruled(api.Rule{W: slot(false)}), field(n)},
			{"the last rule's", []api.Lookup{{Rules: []api.Rule{{}, {W: slot(false)}}}}, field(n)},
		} {
			if x.fits {
				expectLooks(t, x.name, x.l)
			} else {
				expectNoLooks(t, x.name, x.l)
			}
		}
	}
}

// TestLooksOfCounts: each list as long as may be, and longer.
func TestLooksOfCounts(t *testing.T) {
	for _, n := range []int{0, 1, 9, 10, 11, 12, 39, 40, 41, 42, 254, 255, 256, 257, 511, 512, 65535, 65536, 65537} {
		for _, x := range []struct {
			name string
			most int
			l    []api.Lookup
		}{
			{"lookups", 10, many(n, api.Lookup{Kind: 3})},
			{"rules", 40, []api.Lookup{{Kind: 3, Rules: many(n, api.Rule{In: []int{1}})}}},
			{"rules of the last", 40, []api.Lookup{{}, {Rules: many(n, api.Rule{})}}},
			{"In", 255, ruled(put(many(n, 65535)))},
			{"Out", 255, ruled(put(nil, many(n, 258)...))},
		} {
			if n <= x.most {
				expectLooks(t, x.name, x.l)
				continue
			}
			expectNoLooks(t, x.name, x.l)
			if b := lookTable(x.l); !isLookTable(b) {
				expectBadLooks(t, x.name, b)
			}
		}
	}
	expectLooks(t, "all at once", many(10, api.Lookup{Kind: 255, Skip: true, Rules: many(40, put(many(255, 65535), many(255, 65535)...))}))
}

// TestReadLooksOfOneMore: as many as may be are there, but one more is told of.
func TestReadLooksOfOneMore(t *testing.T) {
	for _, n := range []int{11, 12, 255, 256, 65535} {
		b := lookTable(many(10, api.Lookup{Kind: 1}))
		binary.BigEndian.PutUint16(b, uint16(n))
		expectBadLooks(t, "lookups", b)
	}
	for _, n := range []int{41, 42, 255, 256, 65535} {
		b := lookTable([]api.Lookup{{Kind: 1, Rules: many(40, put([]int{1}, 2))}})
		binary.BigEndian.PutUint16(b[4:], uint16(n))
		expectBadLooks(t, "rules", b)
	}
}

func TestReadLooksOfOthers(t *testing.T) {
	b := lookTable(full().Looks)
	for n := range b {
		expectBadLooks(t, "too short", b[:n])
	}
	for _, more := range [][]byte{{0}, {0, 0}, {255}, b, make([]byte, 1<<20)} {
		expectBadLooks(t, "too long", slices.Concat(b, more))
	}
	for skip := range 256 {
		c := slices.Clone(b)
		c[3] = byte(skip)
		l := full().Looks
		l[0].Skip = skip == 1
		if skip <= 1 {
			expectReadLooks(t, "Skip", c, l)
		} else {
			expectBadLooks(t, "Skip", c)
		}
	}
	for _, x := range []byte{0, 1, 32, 255} {
		for _, n := range []int{1, 3, 1 << 16, 1 << 22} {
			expectBadLooks(t, "one byte again and again", bytes.Repeat([]byte{x}, n))
		}
	}
}

// anyLooks is lookups that fit, of any kind.
func anyLooks(r *rand.Rand) []api.Lookup {
	edge := func(n ...int) int { return n[r.Intn(len(n))] }
	octet := func() int { return edge(0, 1, 127, 128, 255, r.Intn(256)) }
	field := func() int { return edge(0, -1, 1, -32768, 32767, 255, 256, r.Intn(65536)-32768) }
	list := func() []int {
		var l []int
		for range edge(0, 1, 2, 3, 255*r.Intn(2)) {
			l = append(l, edge(0, 1, 255, 256, 65535, r.Intn(65536)))
		}
		return l
	}
	slot := func() api.Slot { return api.Slot{Base: field(), Row: field()} }
	var l []api.Lookup
	for range edge(0, 1, 2, 3, 10) {
		x := api.Lookup{Kind: octet(), Skip: r.Intn(2) == 0}
		for range edge(0, 1, 2, 3, 40*r.Intn(2)) {
			x.Rules = append(x.Rules, api.Rule{In: list(), Out: list(), At: octet(), Look: octet(), X: slot(), Y: slot(), W: slot()})
		}
		l = append(l, x)
	}
	return l
}

// TestLooksThereAndBack is P24.4 of lookups, and of bytes of which some are others.
func TestLooksThereAndBack(t *testing.T) {
	r := rand.New(rand.NewSource(242))
	read, bad := 0, 0
	for range 1500 {
		l := anyLooks(r)
		expectLooks(t, "any", l)
		b, _ := Looks(l)
		for range 3 {
			c := slices.Clone(b)
			at := []int{r.Intn(len(c)), r.Intn(min(len(c), 8))}[r.Intn(2)]
			c[at] = byte(r.Intn(256))
			if r.Intn(8) == 0 {
				c = slices.Concat(c, []byte{0, 1}[:r.Intn(3)])
			}
			if !isLookTable(c) {
				expectBadLooks(t, "turned", c)
				bad++
				continue
			}
			m, e := ReadLooks(c)
			if again, x := Looks(m); e != api.OK || x != api.OK || !bytes.Equal(again, c) || !bytes.Equal(lookTable(m), c) {
				t.Fatal("turned", m, e, x)
			}
			read++
		}
	}
	if read < 500 || bad < 500 {
		t.Error("too few of a kind", read, bad)
	}
}

// TestLooksMemory is R5 for lookups.
func TestLooksMemory(t *testing.T) {
	l := full().Looks
	spare(reflect.ValueOf(&l).Elem())
	b, _ := Looks(l)
	if !alike(l, full().Looks) {
		t.Error("Looks changed the lookups")
	}
	expectSpared(t, "Looks", reflect.ValueOf(l))
	clear(b)
	if again, _ := Looks(l); !bytes.Equal(again, lookTable(l)) {
		t.Error("the bytes aren't new")
	}
	file := lookTable(l)
	roomy := slices.Concat(file, file)
	m, _ := ReadLooks(roomy[:len(file)])
	if !bytes.Equal(roomy, slices.Concat(file, file)) {
		t.Error("ReadLooks changed the bytes")
	}
	clear(roomy)
	if !alike(m, l) {
		t.Error("ReadLooks kept the bytes")
	}
	other, _ := ReadLooks(file)
	expectApart(t, "ReadLooks", reflect.ValueOf([][]api.Lookup{m, other}))
}

package metrics

import (
	"bytes"
	"encoding/binary"
	"math"
	"math/rand"
	"slices"
	"strconv"
	"strings"
	"testing"

	"foundry/api"
	"foundry/store"
)

// oneAxis is a store of one axis: all of a row's first number at 1, and of its second one at -1.
func oneAxis() api.Store {
	return api.Store{
		Regions: [][]api.Tent{{{Peak: 16384, End: 16384}}, {{Start: -16384, Peak: -16384}}},
		Rows:    [][]int{{-40, 7}, {32767, 1}, {-32768, 0}},
	}
}

// rows is a store of no regions, with n rows.
func rows(n int) api.Store {
	return api.Store{Rows: make([][]int, n)}
}

func metric(tag string, base, row int) api.Metric {
	return api.Metric{Tag: tag, Slot: api.Slot{Base: base, Row: row}}
}

// family is formed metrics for oneAxis.
func family() []api.Metric {
	return []api.Metric{metric("hasc", 800, 0), metric("hdsc", -200, -1), metric("xhgt", 32767, 1), metric("cpht", -32768, 2)}
}

// many is n metrics without a row, of tags that all differ.
func many(n int) []api.Metric {
	var l []api.Metric
	for i := range n {
		l = append(l, metric("m"+strconv.Itoa(100+i), i, api.None))
	}
	return l
}

// with is family, whose third metric is m.
func with(m api.Metric) []api.Metric {
	l := family()
	l[2] = m
	return l
}

// good is what layer 4 says of a tag.
func good(tag string) bool {
	return len(tag) == 4 && !bytes.ContainsFunc([]byte(tag), func(r rune) bool { return r < 32 || r > 126 })
}

// formed is what the chapter says, one question after the other.
func formed(l []api.Metric, s api.Store) bool {
	tags := map[string]int{}
	for _, m := range l {
		x := m.Slot
		if !good(m.Tag) || x.Base < -32768 || x.Base > 32767 || x.Row < -1 || x.Row >= len(s.Rows) || x.Row >= 400 {
			return false
		}
		tags[m.Tag]++
	}
	return len(tags) == len(l) && len(l) <= 10
}

// table is what the chapter says of the metrics' bytes, formed or not.
func table(l []api.Metric) []byte {
	b := binary.BigEndian.AppendUint16(nil, uint16(len(l)))
	for _, m := range l {
		b = append(b, m.Tag...)
		b = binary.BigEndian.AppendUint16(b, uint16(m.Slot.Base))
		b = binary.BigEndian.AppendUint16(b, uint16(m.Slot.Row))
	}
	return b
}

// isTable answers whether b is the bytes of metrics that are formed for s, and of which.
func isTable(b []byte, s api.Store) ([]api.Metric, bool) {
	if len(b)%8 != 2 {
		return nil, false
	}
	number := func(at int) int { return int(int16(binary.BigEndian.Uint16(b[at:]))) }
	var l []api.Metric
	for at := 2; at < len(b); at += 8 {
		l = append(l, metric(string(b[at:at+4]), number(at+4), number(at+6)))
	}
	return l, int(binary.BigEndian.Uint16(b)) == len(l) && formed(l, s)
}

func expectBad(t *testing.T, name string, b []byte, s api.Store) {
	t.Helper()
	if l, e := Read(b, s); e != api.ErrBad || len(l) != 0 {
		t.Errorf("%s: %d bytes: %v, error %d", name, len(b), l, e)
	}
}

// expectForm asks Formed, and Write and Read, which hang on it.
func expectForm(t *testing.T, name string, l []api.Metric, s api.Store, want bool) {
	t.Helper()
	if formed(l, s) != want {
		t.Errorf("%s: the test's own question says %v", name, !want)
	}
	if Formed(l, s) != want {
		t.Errorf("%s: Formed says %v", name, !want)
	}
	b, e := Write(l, s)
	if !want {
		if e != api.ErrForm || len(b) != 0 {
			t.Errorf("%s: Write: %x, error %d", name, b, e)
		}
		return
	}
	if e != api.OK || !bytes.Equal(b, table(l)) {
		t.Errorf("%s: Write: %x, error %d", name, b, e)
	}
	if m, e := Read(b, s); e != api.OK || !slices.Equal(l, m) {
		t.Errorf("%s: Read: %v, error %d", name, m, e)
	}
}

// edges are numbers about those at which something changes.
func edges() []int {
	return []int{
		math.MinInt, -1 << 40, -1 << 32, -1<<16 - 1, -1 << 16, -1<<16 + 1, -32769, -32768, -32767, -2, -1, 0, 1, 2, 3, 4,
		399, 400, 401, 32766, 32767, 32768, 65534, 65535, 65536, 65537, 1<<32 - 1, 1 << 32, 1 << 40, math.MaxInt,
	}
}

// TestFormed is P16.1.
func TestFormed(t *testing.T) {
	s := oneAxis()
	expectForm(t, "family", family(), s, true)
	expectForm(t, "none", nil, s, true)
	expectForm(t, "none, no store", []api.Metric{}, api.Store{}, true)
	for n := range 14 {
		expectForm(t, strconv.Itoa(n)+" metrics", many(n), s, n <= 10)
	}
	for _, n := range edges() {
		expectForm(t, "base "+strconv.Itoa(n), with(metric("xhgt", n, 1)), s, n >= -32768 && n <= 32767)
		expectForm(t, "row "+strconv.Itoa(n), with(metric("xhgt", 1, n)), s, n >= -1 && n <= 2)
		expectForm(t, "row of 401 "+strconv.Itoa(n), with(metric("xhgt", 1, n)), rows(401), n >= -1 && n <= 399)
	}
	expectForm(t, "no rows", family(), api.Store{}, false)
	expectForm(t, "first", append([]api.Metric{metric("last", 1, 3)}, many(3)...), s, false)
	expectForm(t, "last", append(many(9), metric("last", 1, 3)), s, false)
}

// TestFormedOfUnformedStore: only whether the slots fit is asked of the store, not whether it is formed.
func TestFormedOfUnformedStore(t *testing.T) {
	for _, s := range []api.Store{
		{Rows: [][]int{{1}, {2, 3}, nil}},
		{Regions: make([][]api.Tent, 50), Rows: make([][]int, 500)},
		{Regions: [][]api.Tent{{{Start: 5, Peak: 3, End: 1}}}, Rows: [][]int{{1 << 20}, {0}, {0}}},
	} {
		expectForm(t, "unformed store", family(), s, true)
	}
}

func TestFormedTags(t *testing.T) {
	s := oneAxis()
	for c := range 256 {
		for i := range 4 {
			tag := []byte("abcd")
			tag[i] = byte(c)
			expectForm(t, strconv.Quote(string(tag)), with(metric(string(tag), 1, 1)), s, c >= 32 && c <= 126)
		}
	}
	for _, tag := range []string{"", "a", "abc", "abcde", "hasc ", " hasc", "äb", "äbc", "\u65e5a"} {
		expectForm(t, strconv.Quote(tag), with(metric(tag, 1, 1)), s, false)
	}
	for _, tag := range []string{"    ", "~~~~", "HASC", "hasd", "0123"} {
		expectForm(t, strconv.Quote(tag), with(metric(tag, 1, 1)), s, true)
	}
	for i := range 10 {
		for j := range 10 {
			l := many(10)
			l[i].Tag = l[j].Tag
			expectForm(t, "alike", l, s, i == j)
		}
	}
}

func TestFind(t *testing.T) {
	l := family()
	for i, m := range l {
		if n := Find(l, m.Tag); n != i {
			t.Error(m.Tag, n)
		}
	}
	for _, tag := range []string{"", "has", "hasc ", "HASC", "none", strings.Repeat("hasc", 100)} {
		if n := Find(l, tag); n != -1 {
			t.Error(strconv.Quote(tag), n)
		}
	}
	if n := Find(nil, "hasc"); n != -1 {
		t.Error("no metrics", n)
	}
	if n := Find(nil, ""); n != -1 {
		t.Error("no metrics, no tag", n)
	}
	// Whatever the list: the first one of those that are alike, of tags that aren't good, beyond MaxMetrics.
	twice := append(many(20), append(family(), family()...)...)
	twice = append(twice, metric("", 1, 1), metric("\xff", 1, 1), metric("", 2, 2))
	for tag, want := range map[string]int{"hasc": 20, "cpht": 23, "": 28, "\xff": 29, "m119": 19, "ÿ": -1} {
		if n := Find(twice, tag); n != want {
			t.Error(strconv.Quote(tag), n, want)
		}
	}
}

// TestExample is the chapter's.
func TestExample(t *testing.T) {
	s := api.Store{Regions: [][]api.Tent{{{Peak: 16384, End: 16384}}}, Rows: [][]int{{-40}}}
	if n, e := Value([]api.Metric{metric("hasc", 800, 0)}, s, "hasc", []int{8192}); n != 780 || e != api.OK {
		t.Error(n, e)
	}
}

func TestValue(t *testing.T) {
	for _, c := range []struct {
		tag   string
		coord int
		want  int
		e     api.Errno
	}{
		{"hasc", 0, 800, api.OK},
		{"hasc", 16384, 760, api.OK},
		{"hasc", -16384, 807, api.OK},
		{"hasc", 4096, 790, api.OK},
		{"hasc", -8192, 804, api.OK}, // 803 1/2
		{"hasc", 204, 800, api.OK},   // just above 799 1/2
		{"hasc", 205, 799, api.OK},   // just below it
		{"hasc", 16385, 800, api.OK}, // no coordinate, so no region holds
		{"hasc", 1 << 40, 800, api.OK},
		{"hdsc", 0, -200, api.OK},
		{"hdsc", 16384, -200, api.OK},
		{"xhgt", 0, 32767, api.OK},
		{"xhgt", 1, 0, api.ErrRange},     // 2 more
		{"xhgt", -8191, 32767, api.OK},   // not yet a half more
		{"xhgt", -8192, 0, api.ErrRange}, // a half more
		{"cpht", 0, -32768, api.OK},
		{"cpht", -5, -32768, api.OK}, // the row's second number is 0
		{"cpht", 1, 0, api.ErrRange}, // 2 less
		{"none", 0, 0, api.ErrNone},
		{"", 0, 0, api.ErrNone},
		{"hasc ", 8192, 0, api.ErrNone},
	} {
		n, e := Value(family(), oneAxis(), c.tag, []int{c.coord})
		if n != c.want || e != c.e {
			t.Error(c.tag, c.coord, n, e)
		}
	}
	if n, e := Value(nil, oneAxis(), "hasc", nil); n != 0 || e != api.ErrNone {
		t.Error("no metrics", n, e)
	}
	for _, coords := range [][]int{nil, {}} {
		if n, e := Value(family(), oneAxis(), "hasc", coords); n != 800 || e != api.OK {
			t.Error("coordinates that lack", n, e)
		}
	}
}

// TestValueOfUnformed: that metrics are formed isn't asked; what layer 10 says of the slot is answered.
func TestValueOfUnformed(t *testing.T) {
	s := oneAxis()
	l := append(many(15), metric("\x00", 5, 0), metric("twin", 1, -1), metric("twin", 2, -1), metric("wide", 32768, -1), metric("gone", 1, 3), metric("less", 1, -2))
	for tag, want := range map[string]int{"m114": 14, "\x00": 5, "twin": 1} {
		if n, e := Value(l, s, tag, nil); n != want || e != api.OK {
			t.Error(strconv.Quote(tag), n, e)
		}
	}
	for _, tag := range []string{"wide", "gone", "less"} {
		if n, e := Value(l, s, tag, nil); n != 0 || e != api.ErrForm {
			t.Error(tag, n, e)
		}
	}
	// A row that hasn't a number for each region changes nothing.
	if n, e := Value(family(), api.Store{Rows: [][]int{{9}}}, "hasc", []int{16384}); n != 800 || e != api.OK {
		t.Error("row too long", n, e)
	}
	if n, e := Value([]api.Metric{metric("last", 3, 400)}, rows(500), "last", nil); n != 0 || e != api.ErrForm {
		t.Error("row beyond MaxRows", n, e)
	}
}

// TestValueIsRounded: at random, it is layer 10's Rounded of the first metric of that tag.
func TestValueIsRounded(t *testing.T) {
	r := rand.New(rand.NewSource(1))
	s := oneAxis()
	tags := []string{"aaaa", "bbbb", "cccc", "dddd"}
	for range 20000 {
		var l []api.Metric
		for range r.Intn(6) {
			l = append(l, metric(tags[r.Intn(3)], r.Intn(66000)-33000, r.Intn(6)-2))
		}
		tag, coords := tags[r.Intn(4)], []int{r.Intn(33000) - 16500}
		want, wrong := 0, api.ErrNone
		for _, m := range slices.Backward(l) {
			if m.Tag == tag {
				want, wrong = store.Rounded(s, m.Slot, coords)
			}
		}
		if n, e := Value(l, s, tag, coords); n != want || e != wrong {
			t.Fatal(l, tag, coords, n, e)
		}
	}
}

// TestWithoutRow is P16.3.
func TestWithoutRow(t *testing.T) {
	for _, base := range []int{-32768, -1, 0, 1, 32767} {
		l := []api.Metric{metric("hasc", 1, 0), metric("same", base, api.None)}
		for coord := -16384; coord <= 16384; coord += 64 {
			if n, e := Value(l, oneAxis(), "same", []int{coord}); n != base || e != api.OK {
				t.Fatal(base, coord, n, e)
			}
		}
		for _, coords := range [][]int{nil, {math.MinInt, math.MaxInt}, {1, 2, 3, 4, 5, 6}} {
			if n, e := Value(l, oneAxis(), "same", coords); n != base || e != api.OK {
				t.Error(base, coords, n, e)
			}
		}
	}
}

// TestWriteOfBytes is P16.2, byte by byte.
func TestWriteOfBytes(t *testing.T) {
	b, e := Write(family()[:2], oneAxis())
	if want := "\x00\x02hasc\x03\x20\x00\x00hdsc\xff\x38\xff\xff"; e != api.OK || string(b) != want {
		t.Errorf("%x, error %d", b, e)
	}
	b, e = Write(nil, api.Store{})
	if e != api.OK || !bytes.Equal(b, []byte{0, 0}) {
		t.Errorf("no metrics: %x, error %d", b, e)
	}
	// The order is the list's own, and the last row is 399.
	b, e = Write([]api.Metric{metric("zz~ ", 1, 399), metric("aa~ ", -2, 0)}, rows(400))
	if want := "\x00\x02zz~ \x00\x01\x01\x8faa~ \xff\xfe\x00\x00"; e != api.OK || string(b) != want {
		t.Errorf("%x, error %d", b, e)
	}
}

func TestReadOfOthers(t *testing.T) {
	s := oneAxis()
	b := table(family())
	for n := range b {
		expectBad(t, "too short", b[:n], s)
	}
	for _, more := range [][]byte{{0}, {255}, make([]byte, 8), []byte("more\x00\x00\xff\xff"), b} {
		expectBad(t, "too long", slices.Concat(b, more), s)
	}
	expectBad(t, "nothing", nil, s)
	expectBad(t, "other store", b, api.Store{})
	expectBad(t, "too few rows", b, rows(2))
	if l, e := Read(b, rows(3)); e != api.OK || !slices.Equal(l, family()) {
		t.Error("another store with these rows", l, e)
	}
	if l, e := Read([]byte{0, 0}, s); e != api.OK || len(l) != 0 {
		t.Error("no metrics", l, e)
	}
	// Written rightly, but not formed.
	for name, l := range map[string][]api.Metric{
		"11": many(11), "65535": slices.Repeat(many(1), 65535), "alike": {metric("same", 1, -1), metric("same", 2, -1)},
		"no row": {metric("hasc", 1, 3)}, "below None": {metric("hasc", 1, -2)}, "sign": {metric("ha\x1fc", 1, 0)}, "sign above": {metric("ha\x7fc", 1, 0)},
	} {
		expectBad(t, name, table(l), s)
	}
	expectBad(t, "row beyond MaxRows", table([]api.Metric{metric("hasc", 1, 400)}), rows(500))
	expectBad(t, "zeros", make([]byte, 1<<21), s)
	expectBad(t, "ones", bytes.Repeat([]byte{255}, 2+65535*8), s)
}

// TestReadOfTurned: bytes are read just if they are those of formed metrics, and as these.
func TestReadOfTurned(t *testing.T) {
	r := rand.New(rand.NewSource(1))
	s, others := oneAxis(), 0
	check := func(b []byte) {
		t.Helper()
		want, right := isTable(b, s)
		if !right {
			expectBad(t, "turned", b, s)
			return
		}
		others++
		l, e := Read(b, s)
		if e != api.OK || !slices.Equal(l, want) {
			t.Errorf("%x: %v, error %d", b, l, e)
		}
		if back, e := Write(l, s); e != api.OK || !bytes.Equal(back, b) {
			t.Errorf("%x is written as %x, error %d", b, back, e)
		}
	}
	b := table(family())
	turned := slices.Clone(b)
	for i := range b {
		for n := range 256 {
			turned[i] = byte(n)
			check(turned)
		}
		turned[i] = b[i]
	}
	for range 20000 {
		copy(turned, b)
		for range 1 + r.Intn(4) {
			turned[r.Intn(len(b))] = byte(r.Intn(256))
		}
		check(turned)
		check(turned[:r.Intn(len(b)+1)])
	}
	if others < 1000 {
		t.Error("others", others)
	}
}

// TestMemory: what is handed in is left as it is, its spare room too, and what is answered is new.
func TestMemory(t *testing.T) {
	spare := append(family(), metric("more", 9, 9))
	l := spare[:4]
	b, _ := Write(l, oneAxis())
	again, _ := Write(l, oneAxis())
	b[3] = 'x'
	if bytes.Equal(b, again) {
		t.Error("two answers share bytes")
	}
	room := append(slices.Clone(again), 1, 2, 3)
	m, _ := Read(room[:len(again)], oneAxis())
	n, _ := Read(room[:len(again)], oneAxis())
	m[0].Tag, m[1].Slot.Base = "else", 4
	room[2] = 'y'
	if !slices.Equal(n, family()) {
		t.Error("two answers share metrics, or one its bytes", n)
	}
	Formed(l, oneAxis())
	Find(l, "hdsc")
	Value(l, oneAxis(), "hdsc", []int{1})
	if !slices.Equal(spare, append(family(), metric("more", 9, 9))) || !bytes.Equal(room[len(again):], []byte{1, 2, 3}) {
		t.Error("what was handed in has changed", spare, room)
	}
}

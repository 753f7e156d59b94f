package octets

import (
	"bytes"
	"encoding/binary"
	"math"
	"math/rand"
	"slices"
	"strings"
	"testing"

	"foundry/api"
)

// field is one of the calls that read a number, and what it answers of its bytes alone.
type field struct {
	name string
	read func([]byte, int) (int, bool)
	wide int
	want func([]byte) int
}

// fields are held against another library.
func fields() []field {
	order := binary.BigEndian
	return []field{
		{"U8", U8, 1, func(b []byte) int { return int(b[0]) }},
		{"U16", U16, 2, func(b []byte) int { return int(order.Uint16(b)) }},
		{"I16", I16, 2, func(b []byte) int { return int(int16(order.Uint16(b))) }},
		{"U32", U32, 4, func(b []byte) int { return int(order.Uint32(b)) }},
		{"I32", I32, 4, func(b []byte) int { return int(int32(order.Uint32(b))) }},
	}
}

// roomy is b within a longer list, whose spare room must stay as it is.
func roomy(b []byte) (part, whole []byte) {
	whole = append(slices.Clone(b), "spare room"...)
	return whole[:len(b)], whole
}

// places lie about both ends of a list, and where a sum is more than an int holds.
func places(length int) []int {
	list := []int{math.MinInt, math.MinInt + 1, -1 << 32, -5, -4, -3, -2, -1}
	for at := range length + 6 {
		list = append(list, at)
	}
	return append(list, 1<<31, 1<<32, math.MaxInt-4, math.MaxInt-3, math.MaxInt-2, math.MaxInt-1, math.MaxInt)
}

// lists of bytes, of all lengths about a field's, with all kinds of signs.
func lists() [][]byte {
	all := [][]byte{nil, {}}
	for _, text := range []string{
		"\x00", "\xff", "\x7f", "\x80\x00", "\x7f\xff", "\xff\xfe", "\x01\x02\x03", "\x80\x00\x00\x00", "\x7f\xff\xff\xff",
		"\xff\xff\xff\xff", "\x80\x7f\x80\x7f\x80", "wght", "a  ~b", "\x1f   \x7f", "\x01\x23\x45\x67\x89\xab\xcd\xef\xff\x00\x80",
	} {
		all = append(all, []byte(text))
	}
	return all
}

func TestNumbersAreRead(t *testing.T) {
	for _, b := range lists() {
		for _, at := range places(len(b)) {
			for _, f := range fields() {
				part, whole := roomy(b)
				got, there := f.read(part, at)
				want, fits := 0, at >= 0 && at < len(b) && f.wide <= len(b)-at
				if fits {
					want = f.want(b[at:])
				}
				if got != want || there != fits {
					t.Errorf("%s(%x, %d): %d %v, want %d %v", f.name, b, at, got, there, want, fits)
				}
				if string(whole) != string(b)+"spare room" {
					t.Errorf("%s(%x, %d) changed its argument: %x", f.name, b, at, whole)
				}
			}
		}
	}
}

func TestNumbersOfTheChapter(t *testing.T) {
	b := []byte{255, 254, 128, 0, 0, 0}
	for _, c := range []struct {
		name string
		n    int
		ok   bool
	}{
		{"I16", -2, true}, {"U16", 65534, true}, {"U8", 255, true}, {"I32", -98304, true}, {"U32", 4294868992, true},
	} {
		for _, f := range fields() {
			if f.name != c.name {
				continue
			}
			if n, ok := f.read(b, 0); n != c.n || ok != c.ok {
				t.Error(c.name, n, ok)
			}
		}
	}
	if n, ok := U32(b, 2); n != 1<<31 || !ok {
		t.Error(n, ok)
	}
	if n, ok := I32(b, 2); n != -1<<31 || !ok {
		t.Error(n, ok)
	}
}

// good is what the chapter says of a tag.
func good(tag string) bool {
	return len(tag) == 4 && strings.IndexFunc(tag, func(r rune) bool { return r < 32 || r > 126 }) < 0
}

func TestGood(t *testing.T) {
	for _, tag := range []string{"", "w", "wgh", "wght", "wghtt", "    ", "~~~~", "é12", "éab", "éé", "\xff\xff\xff\xff", "wght\x00"} {
		if Good(tag) != good(tag) {
			t.Errorf("%q", tag)
		}
	}
	for c := range 256 {
		for at := range 4 {
			b := []byte("wght")
			b[at] = byte(c)
			if got, want := Good(string(b)), c >= 32 && c <= 126; got != want {
				t.Errorf("%q: %v", b, got)
			}
			tag, ok := Tag(b, 0)
			if ok != Good(string(b)) || ok && tag != string(b) || !ok && tag != "" {
				t.Errorf("Tag %q: %q %v", b, tag, ok)
			}
		}
	}
}

func TestTag(t *testing.T) {
	for _, b := range append(lists(), []byte("abcdef"), []byte("ab\ncdefg\x7fhijk")) {
		for _, at := range places(len(b)) {
			part, whole := roomy(b)
			tag, ok := Tag(part, at)
			want := ""
			if at >= 0 && at < len(b) && len(b)-at >= 4 && good(string(b[at:at+4])) {
				want = string(b[at : at+4])
			}
			if tag != want || ok != (want != "") {
				t.Errorf("Tag(%q, %d): %q %v", b, at, tag, ok)
			}
			clear(part)
			if tag != want || string(whole[len(b):]) != "spare room" {
				t.Errorf("Tag(%q, %d) hangs on its argument", b, at)
			}
		}
	}
}

func TestCut(t *testing.T) {
	for _, b := range lists() {
		for _, at := range places(len(b)) {
			for _, n := range places(len(b)) {
				part, whole := roomy(b)
				got, ok := Cut(part, at, n)
				fits := at >= 0 && n >= 0 && at <= len(b) && n <= len(b)-at
				if ok != fits || !ok && len(got) != 0 || ok && !bytes.Equal(got, b[at:at+n]) {
					t.Errorf("Cut(%x, %d, %d): %x %v", b, at, n, got, ok)
				}
				for i := range got[:cap(got)] {
					got[:cap(got)][i] ^= 0xff
				}
				if string(whole) != string(b)+"spare room" {
					t.Errorf("Cut(%x, %d, %d) shares memory with its argument", b, at, n)
				}
			}
		}
	}
}

func TestCutOfNothing(t *testing.T) {
	if b, ok := Cut(nil, 0, 0); len(b) != 0 || !ok {
		t.Error(b, ok)
	}
	if b, ok := Cut([]byte("ab"), 2, 0); len(b) != 0 || !ok {
		t.Error(b, ok)
	}
	if b, ok := Cut([]byte("ab"), 3, 0); len(b) != 0 || ok {
		t.Error(b, ok)
	}
	if b, ok := Cut([]byte("ab"), 1, 2); len(b) != 0 || ok {
		t.Error(b, ok)
	}
}

// expect fails unless the page answers this.
func expect(t *testing.T, p *Page, bytes string, e api.Errno, here int) {
	t.Helper()
	b, got := p.All()
	if string(b) != bytes || got != e || p.Here() != here {
		t.Errorf("%.40x of %d, error %d, here %d; want %.40x of %d, error %d, here %d", b, len(b), got, p.Here(), bytes, len(bytes), e, here)
	}
}

func TestZeroPage(t *testing.T) {
	expect(t, &Page{}, "", api.OK, 0)
	expect(t, new(Page), "", api.OK, 0)
}

func TestPutOfTheChapter(t *testing.T) {
	p := &Page{}
	p.Put16(-2)
	expect(t, p, "\xff\xfe", api.OK, 2)
	q := &Page{}
	mark := q.Later()
	q.Put8(7)
	q.Now(0, 0)
	expect(t, q, "\x00\x00\x00\x05\x07", api.OK, 5)
	if mark != 0 {
		t.Error(mark)
	}
}

// putter is a call that puts a number, of so many bytes.
type putter struct {
	put         func(*Page, int)
	wide        int
	least, most int
}

func putters() []putter {
	return []putter{
		{(*Page).Put8, 1, -128, 255},
		{(*Page).Put16, 2, -32768, 65535},
		{(*Page).Put32, 4, -1 << 31, 1<<32 - 1},
	}
}

// numbers lie about all edges of all widths.
func numbers() []int {
	list := []int{0, 1, 7, 0x12, 0x1234, 0x123456, 0x12345678, math.MinInt, math.MinInt + 1, math.MaxInt - 1, math.MaxInt}
	for _, bits := range []int{7, 8, 15, 16, 31, 32, 40, 62} {
		for near := -2; near <= 2; near++ {
			list = append(list, 1<<bits+near, -1<<bits+near)
		}
	}
	return list
}

func TestNumbersArePut(t *testing.T) {
	for _, c := range putters() {
		for _, n := range numbers() {
			p := &Page{}
			p.Put8('x')
			c.put(p, n)
			if n < c.least || n > c.most {
				expect(t, p, "", api.ErrRange, 1)
				continue
			}
			whole := make([]byte, 8)
			binary.BigEndian.PutUint64(whole, uint64(n))
			expect(t, p, "x"+string(whole[8-c.wide:]), api.OK, 1+c.wide)
		}
	}
}

func TestTagsArePut(t *testing.T) {
	for _, tag := range []string{"", "wgh", "wght", "wghtt", "    ", "~~~~", "\x1fabc", "abc\x7f", "é12", "éé", "a\x00bc"} {
		p := &Page{}
		p.Put8(9)
		p.PutTag(tag)
		if good(tag) {
			expect(t, p, "\x09"+tag, api.OK, 5)
		} else {
			expect(t, p, "", api.ErrRange, 1)
		}
	}
}

func TestBytesArePut(t *testing.T) {
	p := &Page{}
	p.PutBytes(nil)
	expect(t, p, "", api.OK, 0)
	part, whole := roomy([]byte("\x00\xffabc"))
	p.PutBytes(part)
	p.PutBytes([]byte{})
	p.Put8('d')
	if string(whole) != "\x00\xffabcspare room" {
		t.Errorf("%q", whole)
	}
	clear(whole)
	expect(t, p, "\x00\xffabcd", api.OK, 6)
}

func TestLaterAndNow(t *testing.T) {
	p := &Page{}
	p.Put8(1)
	first := p.Later()
	second := p.Later()
	expect(t, p, "", api.ErrForm, 9)
	p.Put16(2)
	p.Now(second, 5)
	expect(t, p, "", api.ErrForm, 11)
	p.Put8(3)
	p.Now(first, -3)
	if first != 1 || second != 5 {
		t.Error(first, second)
	}
	expect(t, p, "\x01\x00\x00\x00\x0f\x00\x00\x00\x06\x00\x02\x03", api.OK, 12)
}

func TestNowAtItsEdges(t *testing.T) {
	for _, c := range []struct {
		base  int
		bytes string
	}{
		{0, "\x00\x00\x00\x06"}, {5, "\x00\x00\x00\x01"}, {6, "\x00\x00\x00\x00"}, {-1, "\x00\x00\x00\x07"}, {-300, "\x00\x00\x01\x32"},
		{-1 << 31, "\x80\x00\x00\x06"}, {1 - 1<<31, "\x80\x00\x00\x05"},
		{7, ""}, {1 << 40, ""}, {math.MaxInt, ""}, {-1<<31 - 1, ""}, {-1 << 40, ""}, {math.MinInt, ""}, {math.MinInt + 5, ""},
	} {
		p := &Page{}
		p.Later()
		p.Put16(0x4142)
		p.Now(0, c.base)
		if c.bytes == "" {
			expect(t, p, "", api.ErrRange, 6)
		} else {
			expect(t, p, c.bytes+"AB", api.OK, 6)
		}
	}
}

func TestNowWhereNothingWaits(t *testing.T) {
	for _, mark := range []int{math.MinInt, -1, 1, 2, 3, 4, 5, 6, 7, 8, 9, 10, 99, math.MaxInt} {
		p := &Page{}
		p.Later()
		p.Put32(0)
		p.Now(mark, 0)
		expect(t, p, "", api.ErrRange, 8)
	}
	p := &Page{}
	p.Now(0, 0)
	expect(t, p, "", api.ErrRange, 0)
	twice := &Page{}
	twice.Later()
	twice.Now(0, 0)
	expect(t, twice, "\x00\x00\x00\x04", api.OK, 4)
	twice.Now(0, 0)
	expect(t, twice, "", api.ErrRange, 4)
}

func TestPad(t *testing.T) {
	for length := range 35 {
		for _, n := range []int{math.MinInt, -16, -1, 0, 1, 2, 3, 4, 5, 6, 7, 8, 9, 10, 11, 12, 13, 14, 15, 16, 17, 32, math.MaxInt} {
			p := &Page{}
			p.PutBytes(bytes.Repeat([]byte{7}, length))
			p.Pad(n)
			if n < 1 || n > 16 {
				expect(t, p, "", api.ErrRange, length)
				continue
			}
			want := strings.Repeat("\x07", length)
			for len(want)%n != 0 {
				want += "\x00"
			}
			expect(t, p, want, api.OK, len(want))
		}
	}
}

// spoilers are calls after which a page has failed.
func spoilers() []func(*Page) {
	return []func(*Page){
		func(p *Page) { p.Put8(256) },
		func(p *Page) { p.Put16(-32769) },
		func(p *Page) { p.Put32(1 << 32) },
		func(p *Page) { p.PutTag("abc") },
		func(p *Page) { p.Pad(0) },
		func(p *Page) { p.Now(2, 0) },
		func(p *Page) { p.Now(1, 6) },
	}
}

// rightCalls are calls that would grow a page.
func rightCalls(p *Page) {
	p.Put8(1)
	p.Put16(1)
	p.Put32(1)
	p.PutTag("wght")
	p.PutBytes([]byte("more"))
	p.Pad(16)
}

func TestFailedStaysFailed(t *testing.T) {
	for i, spoil := range spoilers() {
		p := &Page{}
		p.Put8(1)
		p.Later()
		spoil(p)
		expect(t, p, "", api.ErrRange, 5)
		rightCalls(p)
		p.Now(1, 0)
		if mark := p.Later(); mark != 5 {
			t.Error(i, mark)
		}
		p.Now(5, 0)
		expect(t, p, "", api.ErrRange, 5)
	}
}

func TestFailedComesFirst(t *testing.T) {
	p := &Page{}
	p.Later()
	p.PutBytes(make([]byte, api.MaxBytes))
	expect(t, p, "", api.ErrForm, api.MaxBytes+4)
	p.Put8(-129)
	expect(t, p, "", api.ErrRange, api.MaxBytes+4)
}

func TestNilPage(t *testing.T) {
	var p *Page
	rightCalls(p)
	for _, spoil := range spoilers() {
		spoil(p)
	}
	p.Now(-1, 0)
	if mark := p.Later(); mark != -1 {
		t.Error(mark)
	}
	expect(t, p, "", api.ErrRange, 0)
}

func TestMostBytes(t *testing.T) {
	full := strings.Repeat("f", api.MaxBytes)
	p := &Page{}
	p.PutBytes([]byte(full))
	p.PutBytes(nil)
	p.Pad(16)
	expect(t, p, full, api.OK, api.MaxBytes)
	p.Put8(0)
	expect(t, p, "", api.ErrLong, api.MaxBytes+1)
	rest := p.Later()
	rightCalls(p)
	if rest != api.MaxBytes+1 {
		t.Error(rest)
	}
	expect(t, p, "", api.ErrLong, api.MaxBytes+1)
	p.Now(rest, 0)
	expect(t, p, "", api.ErrRange, api.MaxBytes+1)
}

func TestTooLongByEachCall(t *testing.T) {
	for i, c := range []struct {
		put  func(*Page)
		more int
	}{
		{func(p *Page) { p.Put8(1) }, 1},
		{func(p *Page) { p.Put16(1) }, 2},
		{func(p *Page) { p.Put32(1) }, 4},
		{func(p *Page) { p.PutTag("wght") }, 4},
		{func(p *Page) { p.PutBytes(make([]byte, 3<<20)) }, 3 << 20},
		{func(p *Page) { p.Pad(3) }, 1},
	} {
		p := &Page{}
		p.PutBytes(make([]byte, api.MaxBytes))
		c.put(p)
		expect(t, p, "", api.ErrLong, api.MaxBytes+c.more)
		c.put(p)
		if p.Here() != api.MaxBytes+c.more {
			t.Error(i, p.Here())
		}
	}
}

func TestOffsetsOfATooLongPage(t *testing.T) {
	p := &Page{}
	first := p.Later()
	p.PutBytes(make([]byte, api.MaxBytes-4))
	last := p.Later()
	if last != api.MaxBytes {
		t.Error(last)
	}
	expect(t, p, "", api.ErrForm, api.MaxBytes+4)
	p.Now(first, 0)
	expect(t, p, "", api.ErrForm, api.MaxBytes+4)
	p.Now(last, 0)
	expect(t, p, "", api.ErrLong, api.MaxBytes+4)
	p.Now(last, 0)
	expect(t, p, "", api.ErrRange, api.MaxBytes+4)
}

func TestLastPlaceOfAFullPage(t *testing.T) {
	p := &Page{}
	p.PutBytes(make([]byte, api.MaxBytes-4))
	p.Now(p.Later(), 0)
	b, e := p.All()
	if n, ok := U32(b, api.MaxBytes-4); e != api.OK || !ok || n != api.MaxBytes {
		t.Error(e, n, ok)
	}
}

func TestAllIsNewMemory(t *testing.T) {
	p := &Page{}
	p.PutTag("wght")
	first, _ := p.All()
	second, _ := p.All()
	for i := range first[:cap(first)] {
		first[:cap(first)][i] = '!'
	}
	if string(second) != "wght" {
		t.Errorf("%q", second)
	}
	p.PutTag("wdth")
	if string(second) != "wght" {
		t.Errorf("%q", second)
	}
	expect(t, p, "wghtwdth", api.OK, 8)
}

func TestPagesDoNotHangOnOneAnother(t *testing.T) {
	p, q := &Page{}, &Page{}
	p.Later()
	q.Put32(1)
	q.Now(0, 0)
	expect(t, q, "", api.ErrRange, 4)
	p.Put8(5)
	p.Now(0, 0)
	expect(t, p, "\x00\x00\x00\x05\x05", api.OK, 5)
}

// model is a page by the chapter's words: waiting places stand in a list, and nothing is let go.
type model struct {
	bytes []byte
	waits []int
	bad   bool
}

func (m *model) open() bool { return !m.bad && len(m.bytes) <= api.MaxBytes }

func (m *model) put(ok bool, b ...byte) {
	if !ok {
		m.bad = true
	} else if m.open() {
		m.bytes = append(m.bytes, b...)
	}
}

func (m *model) later() int {
	mark := len(m.bytes)
	if m.open() {
		m.put(true, 0, 0, 0, 0)
		m.waits = append(m.waits, mark)
	}
	return mark
}

func (m *model) now(mark, base int) {
	i := slices.Index(m.waits, mark)
	if i < 0 || base < -1<<31 || base > len(m.bytes) {
		m.bad = true
		return
	}
	m.waits = slices.Delete(m.waits, i, i+1)
	binary.BigEndian.PutUint32(m.bytes[mark:], uint32(len(m.bytes)-base))
}

func (m *model) pad(n int) {
	if n < 1 || n > 16 {
		m.bad = true
		return
	}
	for m.open() && len(m.bytes)%n != 0 {
		m.put(true, 0)
	}
}

func (m *model) all() (string, api.Errno) {
	switch {
	case m.bad:
		return "", api.ErrRange
	case len(m.waits) > 0:
		return "", api.ErrForm
	case len(m.bytes) > api.MaxBytes:
		return "", api.ErrLong
	}
	return string(m.bytes), api.OK
}

// step does the same drawn call on both.
func step(t *testing.T, r *rand.Rand, p *Page, m *model) {
	n := r.Intn(1<<17) - 1<<16>>r.Intn(17)
	wide := make([]byte, 8)
	binary.BigEndian.PutUint64(wide, uint64(n))
	switch r.Intn(9) {
	case 0:
		n %= 256
		p.Put8(n >> 1)
		m.put(true, byte(n>>1))
	case 1:
		p.Put16(n)
		m.put(n >= -32768 && n <= 65535, wide[6:]...)
	case 2:
		p.Put32(n)
		m.put(true, wide[4:]...)
	case 3:
		p.PutTag("opsz")
		m.put(true, []byte("opsz")...)
	case 4:
		b := bytes.Repeat([]byte{3}, r.Intn(5)*r.Intn(5))
		p.PutBytes(b)
		m.put(true, b...)
	case 5:
		if got, want := p.Later(), m.later(); got != want {
			t.Error(got, want)
		}
	case 6, 7:
		mark, base := r.Intn(60), r.Intn(len(m.bytes)+2)-r.Intn(3)
		if len(m.waits) > 0 && r.Intn(40) > 0 {
			mark = m.waits[r.Intn(len(m.waits))]
		} else if r.Intn(8) > 0 {
			return
		}
		p.Now(mark, base)
		m.now(mark, base)
	case 8:
		n = r.Intn(17) + r.Intn(2)
		p.Pad(n)
		m.pad(n)
	}
}

func TestDrawnCalls(t *testing.T) {
	r := rand.New(rand.NewSource(4))
	sound := 0
	for range 4000 {
		p, m := &Page{}, &model{}
		if r.Intn(200) == 0 {
			b := make([]byte, api.MaxBytes-r.Intn(60))
			p.PutBytes(b)
			m.put(true, b...)
		}
		for range 2 + r.Intn(30) {
			step(t, r, p, m)
			b, e := m.all()
			expect(t, p, b, e, len(m.bytes))
			if e == api.OK {
				sound++
			}
		}
	}
	if sound < 5000 {
		t.Error("too few pages were sound:", sound)
	}
}

func TestThereAndBack(t *testing.T) {
	r := rand.New(rand.NewSource(44))
	for range 300 {
		p := &Page{}
		var checks []func(b []byte) bool
		for range 40 {
			at, n := p.Here(), r.Intn(1<<32)
			checks = append(checks, putOne(r, p, at, n))
		}
		b, e := p.All()
		if e != api.OK {
			t.Fatal(e)
		}
		for i, check := range checks {
			if !check(b) {
				t.Error(i, "isn't read as it was put")
			}
		}
	}
}

// putOne puts something drawn, and answers how to see that it is read at its place.
func putOne(r *rand.Rand, p *Page, at, n int) func([]byte) bool {
	same := func(read func([]byte, int) (int, bool), want int) func([]byte) bool {
		return func(b []byte) bool {
			got, ok := read(b, at)
			return ok && got == want
		}
	}
	switch r.Intn(8) {
	case 0:
		p.Put8(n & 255)
		return same(U8, n&255)
	case 1:
		p.Put16(n & 65535)
		return same(U16, n&65535)
	case 2:
		p.Put16(int(int16(n)))
		return same(I16, int(int16(n)))
	case 3:
		p.Put32(n)
		return same(U32, n)
	case 4:
		p.Put32(int(int32(n)))
		return same(I32, int(int32(n)))
	case 5:
		mark := p.Later()
		p.Put8(0)
		p.Now(mark, at)
		return same(U32, 5)
	case 6:
		tag := string([]byte{byte(32 + n%95), byte(32 + n/95%95), ' ', '~'})
		p.PutTag(tag)
		return func(b []byte) bool {
			got, ok := Tag(b, at)
			return ok && got == tag
		}
	}
	some := bytes.Repeat([]byte{byte(n)}, n%20)
	p.PutBytes(some)
	return func(b []byte) bool {
		got, ok := Cut(b, at, len(some))
		return ok && bytes.Equal(got, some)
	}
}

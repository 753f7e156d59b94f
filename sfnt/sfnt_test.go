package sfnt

import (
	"bytes"
	"encoding/binary"
	"math/rand"
	"slices"
	"strconv"
	"testing"

	"foundry/api"
)

// sum is what the chapter says of a check sum, by another library.
func sum(b []byte) uint32 {
	full := slices.Clone(b)
	for len(full)%4 != 0 {
		full = append(full, 0)
	}
	var all uint64
	for ; len(full) > 0; full = full[4:] {
		all += uint64(binary.BigEndian.Uint32(full))
	}
	return uint32(all % (1 << 32))
}

// full is how many bytes there are when n are filled up.
func full(n int) int {
	for n%4 != 0 {
		n++
	}
	return n
}

// head is what stands ahead of the records of n tables.
func head(n int) []byte {
	power, log := 1, 0
	for power*2 <= n {
		power, log = power*2, log+1
	}
	order := binary.BigEndian
	b := []byte{0, 1, 0, 0}
	b = order.AppendUint16(b, uint16(n))
	b = order.AppendUint16(b, uint16(16*power))
	b = order.AppendUint16(b, uint16(log))
	return order.AppendUint16(b, uint16(16*n-16*power))
}

// file is what the chapter says of a list's file, but in the order in which the tables are: a list that doesn't rise, or isn't formed, gives a file that is wrong by that alone.
func file(l []Table) []byte {
	order := binary.BigEndian
	b := head(len(l))
	at := 12 + 16*len(l)
	for _, x := range l {
		b = append(b, x.Tag...)
		b = order.AppendUint32(b, sum(x.Bytes))
		b = order.AppendUint32(b, uint32(at))
		b = order.AppendUint32(b, uint32(len(x.Bytes)))
		at += full(len(x.Bytes))
	}
	for _, x := range l {
		b = append(b, x.Bytes...)
		b = append(b, make([]byte, full(len(x.Bytes))-len(x.Bytes))...)
	}
	return b
}

// good is what layer 4 says of a tag.
func good(tag string) bool {
	return len(tag) == 4 && !bytes.ContainsFunc([]byte(tag), func(r rune) bool { return r < 32 || r > 126 })
}

// isFile answers whether b is a file, and of which tables, by going through it field by field.
func isFile(b []byte) ([]Table, bool) {
	if len(b) < 12 {
		return nil, false
	}
	order := binary.BigEndian
	n := int(order.Uint16(b[4:]))
	if n < 1 || n > 32 || len(b) < 12+16*n || !bytes.Equal(b[:12], head(n)) {
		return nil, false
	}
	var l []Table
	at := 12 + 16*n
	for i := range n {
		r := b[12+16*i:]
		tag, length := string(r[:4]), int(order.Uint32(r[12:]))
		if !good(tag) || i > 0 && l[i-1].Tag >= tag || int(order.Uint32(r[8:])) != at || full(length) > len(b)-at {
			return nil, false
		}
		x := b[at : at+length]
		if order.Uint32(r[4:]) != sum(x) || bytes.Count(b[at+length:at+full(length)], []byte{0}) != full(length)-length {
			return nil, false
		}
		l = append(l, Table{tag, x})
		at += full(length)
	}
	return l, at == len(b)
}

func alike(l, m []Table) bool {
	return slices.EqualFunc(l, m, func(x, y Table) bool { return x.Tag == y.Tag && bytes.Equal(x.Bytes, y.Bytes) })
}

func deep(l []Table) []Table {
	m := slices.Clone(l)
	for i := range m {
		m[i].Bytes = bytes.Clone(m[i].Bytes)
	}
	return m
}

func rising(l []Table) []Table {
	m := deep(l)
	for i := range m {
		for j := i; j > 0 && m[j].Tag < m[j-1].Tag; j-- {
			m[j], m[j-1] = m[j-1], m[j]
		}
	}
	return m
}

// named are n tables of tags that differ, rising, each without bytes.
func named(n int) []Table {
	var l []Table
	for i := range n {
		l = append(l, Table{Tag: "t" + strconv.Itoa(100+i)})
	}
	return l
}

// drawn are n tables of all kinds of tags and bytes, in any order.
func drawn(r *rand.Rand, n int) []Table {
	var l []Table
	for len(l) < n {
		tag := make([]byte, 4)
		for i := range tag {
			tag[i] = " !Aaz~"[r.Intn(6)]
		}
		if slices.ContainsFunc(l, func(x Table) bool { return x.Tag == string(tag) }) {
			continue
		}
		b := make([]byte, r.Intn(10))
		for i := range b {
			b[i] = byte(r.Intn(3) * 127)
		}
		l = append(l, Table{string(tag), b})
	}
	return l
}

func TestFormedByCount(t *testing.T) {
	for n := range 40 {
		if got, want := Formed(named(n)), n >= 1 && n <= 32; got != want {
			t.Errorf("%d tables: %v", n, got)
		}
	}
	if Formed([]Table{}) || Formed(make([]Table, 1)) || Formed(named(100000)) {
		t.Error("formed")
	}
}

func TestFormedByTags(t *testing.T) {
	for _, tag := range []string{"", "a", "abc", "abcde", "éab", "éé", "    ", "~~~~", "ab\x00d", "\xff\xff\xff\xff", "ab\x7fd", "ab\x1fd", "abcd\x00"} {
		for at := range 3 {
			l := named(3)
			l[at].Tag = tag
			if Formed(l) != good(tag) {
				t.Errorf("%q at %d: %v", tag, at, Formed(l))
			}
		}
	}
	for _, n := range []int{2, 3, 32} {
		for i := range n {
			for j := range n {
				l := named(n)
				l[j] = Table{l[i].Tag, []byte{byte(j)}}
				if Formed(l) != (i == j) {
					t.Errorf("tables %d and %d of %d: %v", i, j, n, Formed(l))
				}
			}
		}
	}
}

func TestFormedByLength(t *testing.T) {
	long := make([]byte, api.MaxBytes+1)
	for at := range 3 {
		l := named(3)
		l[at].Bytes = long[1:]
		if !Formed(l) {
			t.Errorf("MaxBytes at %d", at)
		}
		l[at].Bytes = long
		if Formed(l) {
			t.Errorf("MaxBytes + 1 at %d", at)
		}
	}
}

func TestSum(t *testing.T) {
	for _, c := range []struct {
		bytes string
		want  uint32
	}{
		{"", 0}, {"\x07", 7 << 24}, {"\x07\x08", 0x07080000}, {"\x07\x08\x09", 0x07080900}, {"\x07\x08\x09\x0a", 0x0708090a},
		{"\x07\x08\x09\x0a\x01", 0x0808090a}, {"\xff\xff\xff\xff", 1<<32 - 1}, {"\xff\xff\xff\xff\x00\x00\x00\x01", 0},
		{"\xff\xff\xff\xff\x00\x00\x00\x02", 1}, {"\x80\x00\x00\x00\x80\x00\x00\x00\x00\x00\x01", 256}, {"\x00\x00\x00\x80\x00\x00\x00\x80", 256},
	} {
		if got := Sum([]byte(c.bytes)); got != c.want {
			t.Errorf("%x: %x, want %x", c.bytes, got, c.want)
		}
	}
	r := rand.New(rand.NewSource(1))
	for n := range 300 {
		b := make([]byte, n, n+5)
		r.Read(b[:n+5])
		was := bytes.Clone(b[:n+5])
		if got := Sum(b); got != sum(b) {
			t.Errorf("%x: %x, want %x", b, got, sum(b))
		}
		if !bytes.Equal(b[:n+5], was) {
			t.Error("the argument was changed")
		}
	}
	if got := Sum(bytes.Repeat([]byte{255}, 1<<20)); got != 1<<32-1<<18 {
		t.Errorf("%x", got)
	}
}

func TestPackOfTheChapter(t *testing.T) {
	b, e := Pack([]Table{{"abcd", []byte{7}}})
	want := []byte{0, 1, 0, 0, 0, 1, 0, 16, 0, 0, 0, 0, 'a', 'b', 'c', 'd', 7, 0, 0, 0, 0, 0, 0, 28, 0, 0, 0, 1, 7, 0, 0, 0}
	if !bytes.Equal(b, want) || e != api.OK {
		t.Error(b, e)
	}
}

func TestPackOfAllCounts(t *testing.T) {
	r := rand.New(rand.NewSource(2))
	for n := 1; n <= 32; n++ {
		for range 30 {
			l := drawn(r, n)
			want := file(rising(l))
			b, e := Pack(l)
			if e != api.OK || !bytes.Equal(b, want) {
				t.Fatalf("%d tables: %x, error %d, want %x", n, b, e, want)
			}
			r.Shuffle(n, func(i, j int) { l[i], l[j] = l[j], l[i] })
			if again, e := Pack(l); e != api.OK || !bytes.Equal(again, want) {
				t.Fatalf("%d tables hang on their order", n)
			}
		}
	}
}

func TestPackOfWrongLists(t *testing.T) {
	long := make([]byte, api.MaxBytes+1)
	for name, l := range map[string][]Table{
		"none":                    nil,
		"33":                      named(33),
		"bad tag":                 {{"abc", nil}},
		"twice":                   {{"abcd", nil}, {"efgh", nil}, {"abcd", nil}},
		"long table":              {{"abcd", long}},
		"wrong ahead of too long": {{"abcd", long[1:]}, {"abcd", long[1:]}},
	} {
		if b, e := Pack(l); len(b) != 0 || e != api.ErrForm {
			t.Errorf("%s: %d bytes, error %d", name, len(b), e)
		}
	}
}

func TestPackAtTheLimit(t *testing.T) {
	for _, n := range []int{1, 2, 3, 32} {
		room := api.MaxBytes - 12 - 16*n
		for _, c := range []struct {
			bytes int
			e     api.Errno
		}{
			{room - 4, api.OK}, {room - 3, api.OK}, {room - 1, api.OK}, {room, api.OK},
			{room + 1, api.ErrLong}, {room + 4, api.ErrLong}, {api.MaxBytes, api.ErrLong},
		} {
			l := named(n)
			l[n/2].Bytes = bytes.Repeat([]byte{9}, c.bytes)
			b, e := Pack(l)
			if e != c.e || e != api.OK && len(b) != 0 || e == api.OK && !bytes.Equal(b, file(l)) {
				t.Errorf("%d tables, %d bytes: %d bytes, error %d", n, c.bytes, len(b), e)
			}
			m, e := Unpack(file(l))
			if e != c.e || e != api.OK && len(m) != 0 || e == api.OK && !alike(m, l) {
				t.Errorf("%d tables, %d bytes, unpacked: error %d", n, c.bytes, e)
			}
		}
	}
	// Here the bytes alone would do, but not what fills them up.
	l := named(2)
	l[0].Bytes, l[1].Bytes = make([]byte, 5), make([]byte, api.MaxBytes-12-32-5)
	if b, e := Pack(l); len(b) != 0 || e != api.ErrLong {
		t.Error(len(b), e)
	}
	l = named(32)
	for i := range l {
		l[i].Bytes = make([]byte, api.MaxBytes)
	}
	if b, e := Pack(l); len(b) != 0 || e != api.ErrLong {
		t.Error(len(b), e)
	}
}

// expectUnpacked fails unless Unpack answers of b what the chapter says.
func expectUnpacked(t *testing.T, name string, b []byte) {
	t.Helper()
	want, is := isFile(b)
	got, e := Unpack(b)
	switch {
	case is && (e != api.OK || !alike(got, want)):
		t.Errorf("%s: %x is a file: %v, error %d", name, b, got, e)
	case !is && (e != api.ErrBad || len(got) != 0):
		t.Errorf("%s: %x is none: %v, error %d", name, b, got, e)
	}
}

// files are some of all kinds: of one table and of 32, of tables without bytes, of each rest modulo four.
func files() [][]byte {
	full := named(32)
	for i := range full {
		full[i].Bytes = bytes.Repeat([]byte{byte(i)}, i%7)
	}
	return [][]byte{
		file([]Table{{"abcd", []byte{7}}}),
		file([]Table{{"    ", nil}}),
		file([]Table{{"aa  ", nil}, {"mm  ", []byte{255, 255, 255, 255, 0, 0, 0, 2}}, {"zz  ", []byte{1, 2, 3, 4, 5}}}),
		file([]Table{{"ABCD", []byte{1, 2, 3}}, {"abcd", []byte{1, 2}}, {"abce", nil}, {"~~~~", nil}}),
		file(full),
	}
}

func TestUnpackOfFiles(t *testing.T) {
	for i, b := range files() {
		want, is := isFile(b)
		if l, e := Unpack(b); !is || e != api.OK || !alike(l, want) {
			t.Errorf("%d: %v, error %d", i, l, e)
		}
	}
}

func TestUnpackOfTurnedBytes(t *testing.T) {
	for i, b := range files() {
		for at := range b {
			for _, turn := range []byte{1, 2, 4, 8, 16, 32, 64, 128, 255} {
				x := bytes.Clone(b)
				x[at] ^= turn
				expectUnpacked(t, strconv.Itoa(i), x)
			}
		}
	}
}

func TestUnpackOfOtherLengths(t *testing.T) {
	for i, b := range files() {
		name := strconv.Itoa(i)
		for n := range b {
			expectUnpacked(t, name, b[:n])
			expectUnpacked(t, name, b[n:])
		}
		for n := 1; n <= 16; n++ {
			expectUnpacked(t, name, append(bytes.Clone(b), make([]byte, n)...))
			expectUnpacked(t, name, append(make([]byte, n), b...))
		}
		for n := range 70 {
			x := bytes.Clone(b)
			x[5] = byte(n)
			expectUnpacked(t, name, x)
		}
	}
	expectUnpacked(t, "nil", nil)
}

func TestUnpackOfWrongLists(t *testing.T) {
	for name, l := range map[string][]Table{
		"falling":        {{"bbbb", []byte{1}}, {"aaaa", []byte{2}}},
		"twice":          {{"aaaa", []byte{1}}, {"aaaa", []byte{1}}},
		"twice, empty":   {{"aaaa", nil}, {"aaaa", nil}},
		"33":             named(33),
		"256":            named(256),
		"bad tag":        {{"aa\x7fa", nil}},
		"bad tag, first": {{"\x00aaa", nil}, {"aaaa", nil}},
		"not ASCII":      {{"éaa", nil}},
	} {
		b := file(l)
		if _, is := isFile(b); is {
			t.Fatal(name)
		}
		expectUnpacked(t, name, b)
	}
	for _, n := range []int{0, 1} {
		b := head(1)
		b[5] = byte(n)
		if l, e := Unpack(b); len(l) != 0 || e != api.ErrBad {
			t.Error(n, l, e)
		}
	}
	if l, e := Unpack([]byte{0, 1, 0, 0, 0, 0, 0, 0, 0, 0, 0, 0}); len(l) != 0 || e != api.ErrBad {
		t.Error(l, e)
	}
}

// TestUnpackOfWrongPlaces lays tables otherwise than the chapter does, each with its true check sum.
func TestUnpackOfWrongPlaces(t *testing.T) {
	order := binary.BigEndian
	place := func(b []byte, record, at int) { order.PutUint32(b[12+16*record+8:], uint32(at)) }
	two := file([]Table{{"aaaa", []byte{5, 5, 5, 5}}, {"bbbb", []byte{5, 5, 5, 5}}})
	both := bytes.Clone(two)
	place(both, 1, 44)
	swapped := bytes.Clone(two)
	place(swapped, 0, 48)
	place(swapped, 1, 44)
	shared := bytes.Clone(both[:48])
	gap := slices.Insert(bytes.Clone(two), 48, 0, 0, 0, 0)
	place(gap, 1, 52)
	tight := file([]Table{{"aaaa", []byte{5}}, {"bbbb", []byte{6}}})
	tight = append(tight[:45], 6, 0, 0)
	place(tight, 1, 45)
	dirty := file([]Table{{"aaaa", []byte{5}}})
	dirty[len(dirty)-1] = 1
	summed := file([]Table{{"aaaa", []byte{5, 0, 0, 1}}})
	order.PutUint32(summed[24:], 1)
	bare := file([]Table{{"aaaa", []byte{5}}})[:29]
	far := bytes.Clone(two)
	place(far, 1, -1)
	long := bytes.Clone(two)
	order.PutUint32(long[12+16+12:], 1<<32-1)
	for name, b := range map[string][]byte{
		"one for both": both, "swapped": swapped, "shared": shared, "gap": gap, "not filled up": tight,
		"filled up by 1": dirty, "filled up by a summed 1": summed, "end not filled up": bare, "far away": far, "endless": long,
	} {
		if _, is := isFile(b); is {
			t.Fatal(name)
		}
		expectUnpacked(t, name, b)
	}
}

func TestUnpackOfTooMuch(t *testing.T) {
	for _, b := range [][]byte{
		make([]byte, api.MaxBytes+1),
		append(bytes.Clone(files()[0]), make([]byte, api.MaxBytes)...),
		file([]Table{{"aaaa", make([]byte, api.MaxBytes)}}),
		bytes.Repeat([]byte{255}, api.MaxBytes+4),
	} {
		if l, e := Unpack(b); len(l) != 0 || e != api.ErrLong {
			t.Errorf("%d bytes: %d tables, error %d", len(b), len(l), e)
		}
		if l, e := Unpack(b[:api.MaxBytes]); len(l) != 0 || e != api.ErrBad {
			t.Errorf("MaxBytes: %d tables, error %d", len(l), e)
		}
	}
	b := head(1)
	b[4], b[5] = 255, 255
	for len(b)+16 <= api.MaxBytes {
		b = append(b, "aaaa\x00\x00\x00\x00\x00\x00\x00\x00\x00\x00\x00\x00"...)
	}
	if l, e := Unpack(b); len(l) != 0 || e != api.ErrBad {
		t.Error(len(l), e)
	}
}

func TestUnpackOfDrawnBytes(t *testing.T) {
	r := rand.New(rand.NewSource(3))
	all := files()
	for range 20000 {
		b := bytes.Clone(all[r.Intn(4)])
		for range 1 + r.Intn(3) {
			b[r.Intn(len(b))] = byte(r.Intn(6))
		}
		expectUnpacked(t, "drawn", b[:len(b)-r.Intn(2)*r.Intn(5)])
	}
	for range 2000 {
		b := make([]byte, r.Intn(100))
		r.Read(b)
		copy(b, all[0][:r.Intn(13)])
		expectUnpacked(t, "noise", b)
	}
}

func TestFind(t *testing.T) {
	l := []Table{{"bbbb", []byte{1, 2}}, {"aaaa", nil}, {"bbbb", []byte{3}}, {"", []byte{4}}, {"éé?", []byte{5}}, {"aaaa", []byte{6}}}
	for _, c := range []struct {
		tag, want string
		e         api.Errno
	}{
		{"bbbb", "\x01\x02", api.OK}, {"aaaa", "", api.OK}, {"", "\x04", api.OK}, {"éé?", "\x05", api.OK},
		{"cccc", "", api.ErrNone}, {"bbb", "", api.ErrNone}, {"bbbbb", "", api.ErrNone}, {"BBBB", "", api.ErrNone},
	} {
		if b, e := Find(l, c.tag); string(b) != c.want || e != c.e {
			t.Errorf("%q: %v, error %d", c.tag, b, e)
		}
	}
	if b, e := Find(nil, ""); len(b) != 0 || e != api.ErrNone {
		t.Error(b, e)
	}
}

func TestThereAndBack(t *testing.T) {
	r := rand.New(rand.NewSource(4))
	for range 1000 {
		l := drawn(r, 1+r.Intn(32))
		b, e := Pack(l)
		if e != api.OK {
			t.Fatal(l, e)
		}
		m, e := Unpack(b)
		if e != api.OK || !alike(m, rising(l)) {
			t.Fatalf("%v: %v, error %d", l, m, e)
		}
		again, e := Pack(m)
		if e != api.OK || !bytes.Equal(again, b) {
			t.Fatalf("%x: %x, error %d", b, again, e)
		}
		for _, x := range l {
			if c, e := Find(m, x.Tag); e != api.OK || !bytes.Equal(c, x.Bytes) {
				t.Fatalf("%q: %x, error %d", x.Tag, c, e)
			}
		}
	}
}

// roomy is l within a longer list, and so is each of its members: a call must leave all of that as it is.
func roomy(l []Table) []Table {
	whole := append(deep(l), Table{"room", []byte("spare")})
	for i := range whole {
		whole[i].Bytes = append(whole[i].Bytes, "room"...)[:len(whole[i].Bytes)]
	}
	return whole[:len(l)]
}

// intact answers whether l is what roomy made.
func intact(l, was []Table) bool {
	whole := l[:len(l)+1]
	for _, x := range whole {
		if string(x.Bytes[len(x.Bytes):len(x.Bytes)+4]) != "room" {
			return false
		}
	}
	return alike(l, was) && whole[len(l)].Tag == "room" && string(whole[len(l)].Bytes) == "spare"
}

// scribble writes over all of b, its spare room too.
func scribble(b []byte) {
	b = b[:cap(b)]
	for i := range b {
		b[i] ^= 0xff
	}
}

func TestListsAreLeftAndNotKept(t *testing.T) {
	was := []Table{{"zzzz", []byte{1, 2, 3, 4, 5}}, {"aaaa", nil}, {"mmmm", []byte{6}}}
	l := roomy(was)
	b, e := Pack(l)
	want := bytes.Clone(b)
	scribble(b)
	found, _ := Find(l, "zzzz")
	scribble(found)
	if !Formed(l) || e != api.OK || !intact(l, was) {
		t.Error("a list was changed")
	}
	b, _ = Pack(l)
	found, _ = Find(l, "zzzz")
	for _, x := range l {
		scribble(x.Bytes)
	}
	clear(l)
	if !bytes.Equal(b, want) || string(found) != "\x01\x02\x03\x04\x05" {
		t.Error("an answer hangs on a list")
	}
}

func TestFilesAreLeftAndNotKept(t *testing.T) {
	for _, was := range files() {
		whole := append(bytes.Clone(was), "room"...)
		b := whole[:len(was)]
		want, _ := isFile(was)
		l, e := Unpack(b)
		if e != api.OK || string(whole) != string(was)+"room" {
			t.Error("a file was changed")
		}
		scribble(b)
		if !alike(l, want) {
			t.Error("an answer hangs on a file")
		}
		for i := range l {
			scribble(l[i].Bytes)
			l[i].Bytes = want[i].Bytes
			if !alike(l, want) {
				t.Error("two tables share their bytes")
			}
		}
	}
}

package axes

import (
	"bytes"
	"encoding/binary"
	"math"
	"math/big"
	"math/rand"
	"slices"
	"strconv"
	"testing"

	"foundry/api"
	"foundry/nat"
	"foundry/ratio"
)

const (
	least32 = math.MinInt32
	most32  = math.MaxInt32
)

// good is what layer 4 says of a tag.
func good(tag string) bool {
	return len(tag) == 4 && !bytes.ContainsFunc([]byte(tag), func(r rune) bool { return r < 32 || r > 126 })
}

// formed is what the chapter says, one question after the other.
func formed(l []api.Axis) bool {
	tags := map[string]int{}
	for _, a := range l {
		for _, v := range []int{a.Least, a.Usual, a.Most} {
			if v < least32 || v > most32 {
				return false
			}
		}
		if !good(a.Tag) || a.Least > a.Usual || a.Usual > a.Most {
			return false
		}
		tags[a.Tag]++
	}
	return len(tags) == len(l) && len(l) <= 4
}

// plain is what the chapter says of a plain coordinate, by another library's fractions.
func plain(a api.Axis, u int) string {
	x := new(big.Rat)
	if !formed([]api.Axis{a}) {
		return x.RatString()
	}
	u = max(a.Least, min(u, a.Most))
	switch {
	case u < a.Usual:
		x.SetFrac64(int64(a.Usual-u), int64(a.Usual-a.Least))
		x.Neg(x)
	case u > a.Usual:
		x.SetFrac64(int64(u-a.Usual), int64(a.Most-a.Usual))
	}
	return x.RatString()
}

// value is what the chapter says of the user value whose plain coordinate is n / d.
func value(a api.Axis, n, d int64) string {
	if !formed([]api.Axis{a}) {
		return "0"
	}
	x := big.NewRat(n, d)
	if one := big.NewRat(1, 1); x.Cmp(one) > 0 {
		x = one
	}
	if one := big.NewRat(-1, 1); x.Cmp(one) < 0 {
		x = one
	}
	width := a.Most - a.Usual
	if x.Sign() < 0 {
		width = a.Usual - a.Least
	}
	x.Mul(x, big.NewRat(int64(width), 1))
	return x.Add(x, big.NewRat(int64(a.Usual), 1)).RatString()
}

// table is what the chapter says of a list's bytes, formed or not.
func table(l []api.Axis) []byte {
	order := binary.BigEndian
	b := order.AppendUint16(nil, uint16(len(l)))
	for _, a := range l {
		b = append(b, a.Tag...)
		for _, v := range []int{a.Least, a.Usual, a.Most} {
			b = order.AppendUint32(b, uint32(int32(v)))
		}
	}
	return b
}

// isTable answers whether b is the bytes of formed axes, and of which.
func isTable(b []byte) ([]api.Axis, bool) {
	if len(b)%16 != 2 {
		return nil, false
	}
	order := binary.BigEndian
	number := func(at int) int { return int(int32(order.Uint32(b[at:]))) }
	var l []api.Axis
	for at := 2; at < len(b); at += 16 {
		l = append(l, api.Axis{Tag: string(b[at : at+4]), Least: number(at + 4), Usual: number(at + 8), Most: number(at + 12)})
	}
	return l, int(order.Uint16(b)) == len(l) && formed(l)
}

// usual are n formed axes.
func usual(n int) []api.Axis {
	var l []api.Axis
	for i := range n {
		l = append(l, api.Axis{Tag: "ax" + strconv.Itoa(10+i), Least: -i * 65536, Usual: i, Most: 65536 * (i + 1)})
	}
	return l
}

// edges are numbers about those at which something changes.
func edges() []int {
	return []int{math.MinInt, -1 << 40, -1 << 32, least32 - 1, least32, least32 + 1, -65536, -2, -1, 0, 1, 2, 3, 65536, most32 - 1, most32, most32 + 1, 1 << 32, 1<<32 + 1, 1 << 40, math.MaxInt}
}

// tried are axes whose values are edges, in every order, formed or not.
func tried() []api.Axis {
	var l []api.Axis
	for _, least := range edges() {
		for _, usual := range edges() {
			for _, most := range edges() {
				l = append(l, api.Axis{Tag: "wght", Least: least, Usual: usual, Most: most})
			}
		}
	}
	return l
}

func TestFormedByCount(t *testing.T) {
	for n := range 12 {
		if got := Formed(usual(n)); got != (n <= 4) {
			t.Errorf("%d axes: %v", n, got)
		}
	}
	if !Formed(nil) || !Formed([]api.Axis{}) || Formed(usual(80000)) || Formed(make([]api.Axis, 1)) {
		t.Error("Formed")
	}
}

func TestFormedByTags(t *testing.T) {
	for _, tag := range []string{"", "a", "abc", "abcde", "éab", "éé", "    ", "~~~~", "ab\x00d", "\xff\xff\xff\xff", "\x7fbcd", "abc\x1f", "abcd\x00"} {
		for at := range 4 {
			l := usual(4)
			l[at].Tag = tag
			if Formed(l) != good(tag) {
				t.Errorf("%q at %d: %v", tag, at, Formed(l))
			}
		}
	}
	for i := range 4 {
		for j := range 4 {
			l := usual(4)
			l[j].Tag = l[i].Tag
			if Formed(l) != (i == j) {
				t.Errorf("axes %d and %d: %v", i, j, Formed(l))
			}
		}
	}
	// Axes that differ by their tags alone aren't alike.
	if !Formed([]api.Axis{{Tag: "aaaa"}, {Tag: "aaab"}, {Tag: "AAAA"}}) {
		t.Error("like values")
	}
}

func TestFormedByValues(t *testing.T) {
	for _, a := range tried() {
		if got, want := Formed([]api.Axis{a}), formed([]api.Axis{a}); got != want {
			t.Errorf("%v: %v", a, got)
		}
	}
	for at := range 4 {
		for _, wrong := range []api.Axis{{Least: 1}, {Usual: 1}, {Most: -1}, {Most: most32 + 1}, {Least: least32 - 1}} {
			l := usual(4)
			wrong.Tag = l[at].Tag
			l[at] = wrong
			if Formed(l) {
				t.Errorf("%v at %d", wrong, at)
			}
		}
	}
}

func TestPlainOfTheChapter(t *testing.T) {
	a := api.Axis{Tag: "wght", Least: 100, Usual: 400, Most: 900}
	for u, want := range map[int]string{
		250: "-1/2", 650: "1/2", 1000: "1", 900: "1", 901: "1", 899: "499/500", 401: "1/500", 400: "0", 399: "-1/300",
		101: "-299/300", 100: "-1", 99: "-1", math.MinInt: "-1", math.MaxInt: "1",
	} {
		if got := ratio.Text(Plain(a, u)); got != want {
			t.Errorf("%d: %s, want %s", u, got, want)
		}
	}
	for u := -2; u < 2; u++ {
		if got := ratio.Text(Plain(api.Axis{Tag: "wght", Most: 5}, u)); got != plain(api.Axis{Tag: "wght", Most: 5}, u) {
			t.Errorf("0, 0, 5 at %d: %s", u, got)
		}
	}
}

func TestPlainOfAllKinds(t *testing.T) {
	for _, a := range tried() {
		for _, u := range edges() {
			x := Plain(a, u)
			if got, want := ratio.Text(x), plain(a, u); got != want || !ratio.Formed(x) {
				t.Fatalf("%v at %d: %s, want %s", a, u, got, want)
			}
		}
	}
}

func TestUserOfTheChapter(t *testing.T) {
	a := api.Axis{Tag: "wght", Least: 100, Usual: 400, Most: 900}
	for _, c := range []struct {
		n, d int64
		want string
	}{
		{1, 3, "1700/3"}, {-1, 3, "300"}, {0, 1, "400"}, {1, 1, "900"}, {-1, 1, "100"}, {1, 2, "650"}, {-1, 2, "250"},
		{3, 2, "900"}, {-3, 2, "100"}, {100001, 100000, "900"}, {-100001, 100000, "100"}, {99999, 100000, "179999/200"}, {-1, 7, "2500/7"},
		{math.MaxInt64, 1, "900"}, {math.MinInt64, 1, "100"},
	} {
		if got := ratio.Text(User(a, ratio.Make(c.n, c.d))); got != c.want {
			t.Errorf("%d/%d: %s, want %s", c.n, c.d, got, c.want)
		}
	}
}

func TestUserOfAllKinds(t *testing.T) {
	for _, a := range tried() {
		for _, c := range [][2]int64{{-9, 2}, {-1, 1}, {-2, 3}, {-1, 16384}, {0, 1}, {1, 16384}, {1, 2}, {1, 1}, {9, 8}} {
			x := User(a, ratio.Make(c[0], c[1]))
			if got, want := ratio.Text(x), value(a, c[0], c[1]); got != want || !ratio.Formed(x) {
				t.Fatalf("%v of %v: %s, want %s", a, c, got, want)
			}
		}
	}
}

func TestUserOfWrongFractions(t *testing.T) {
	a := api.Axis{Tag: "wght", Least: 100, Usual: 400, Most: 900}
	for _, x := range []ratio.Ratio{
		{}, {Neg: true}, {Num: nat.Nat{1}}, {Neg: true, Num: nat.Nat{1}}, {Num: nat.Nat{2}, Den: nat.Nat{4}},
		{Neg: true, Num: nat.Nat{2}, Den: nat.Nat{4}}, {Neg: true, Den: nat.Nat{1}}, {Num: nat.Nat{9, 0}, Den: nat.Nat{1}},
		{Neg: true, Num: nat.Nat{9}, Den: nat.Nat{1, 0}}, {Neg: true, Num: nat.Nat{1}, Den: nat.Nat{0}},
	} {
		if got := ratio.Text(User(a, x)); got != "400" {
			t.Errorf("%v: %s", x, got)
		}
	}
	wide := nat.Nat(slices.Repeat([]uint32{1<<32 - 1}, 100))
	for neg, want := range map[bool]string{false: "900", true: "100"} {
		if got := ratio.Text(User(a, ratio.Ratio{Neg: neg, Num: wide, Den: nat.Of(2)})); got != want {
			t.Errorf("far out: %s", got)
		}
	}
	near := User(a, ratio.Ratio{Num: nat.Of(1), Den: wide})
	if ratio.Cmp(near, ratio.Whole(400)) != 1 || ratio.Cmp(near, ratio.Make(4001, 10)) != -1 {
		t.Error(ratio.Text(near))
	}
}

func TestWrongAxesAnswerFormedZeros(t *testing.T) {
	for _, a := range []api.Axis{{}, {Tag: "abc", Most: 5}, {Tag: "wght", Least: 1}, {Tag: "wght", Most: -1}, {Tag: "wght", Most: most32 + 1}} {
		for _, x := range []ratio.Ratio{Plain(a, 3), User(a, ratio.Whole(1))} {
			if !ratio.Formed(x) || ratio.Sign(x) != 0 {
				t.Errorf("%v: %v", a, x)
			}
		}
	}
}

// drawnAxis is a formed axis of any width, often of none on a side.
func drawnAxis(r *rand.Rand) api.Axis {
	wide := []int64{1, 3, 1000, 1 << 20, 1 << 32}[r.Intn(5)]
	v := make([]int, 3)
	for i := range v {
		v[i] = int(r.Int63n(wide) - wide/2)
	}
	slices.Sort(v)
	return api.Axis{Tag: "wght", Least: v[0], Usual: v[1], Most: v[2]}
}

// TestWhatFollows: Plain lies from -1 to 1 and rises, and User undoes it.
func TestWhatFollows(t *testing.T) {
	r := rand.New(rand.NewSource(1))
	for range 3000 {
		a := drawnAxis(r)
		places := []int{a.Least - 1, a.Least, a.Usual, a.Most, a.Most + 1, math.MinInt, math.MaxInt}
		for range 5 {
			places = append(places, a.Least+int(r.Int63n(int64(a.Most-a.Least)+1)))
		}
		slices.Sort(places)
		last := ratio.Whole(-1)
		for _, u := range places {
			x := Plain(a, u)
			if ratio.Cmp(x, last) < 0 || ratio.Cmp(x, ratio.Whole(1)) > 0 {
				t.Fatalf("%v at %d: %s behind %s", a, u, ratio.Text(x), ratio.Text(last))
			}
			last = x
			if back := User(a, x); ratio.Text(back) != strconv.Itoa(Clamp([]api.Axis{a}, []int{u})[0]) {
				t.Fatalf("%v at %d: %s", a, u, ratio.Text(back))
			}
		}
	}
}

// TestPlainUndoesUser goes the other way, where user values are whole.
func TestPlainUndoesUser(t *testing.T) {
	a := api.Axis{Tag: "wght", Least: -7 * 65536, Usual: 65536, Most: 65536 + 1<<14}
	for n := int64(-16384); n <= 16384; n++ {
		x := ratio.Make(n, 16384)
		u, whole := ratio.Floor(User(a, x))
		if !whole || ratio.Cmp(ratio.Whole(u), User(a, x)) != 0 || ratio.Cmp(Plain(a, int(u)), x) != 0 {
			t.Fatal(n)
		}
	}
}

func TestClamp(t *testing.T) {
	l := []api.Axis{{Tag: "aaaa", Least: 100, Usual: 400, Most: 900}, {Tag: "bbbb", Least: -5, Usual: -5, Most: 5}, {Tag: "cccc", Usual: 0}}
	for _, c := range []struct{ place, want []int }{
		{nil, []int{400, -5, 0}},
		{[]int{}, []int{400, -5, 0}},
		{[]int{99}, []int{100, -5, 0}},
		{[]int{100, 5}, []int{100, 5, 0}},
		{[]int{901, 6, 1}, []int{900, 5, 0}},
		{[]int{900, -6, -1}, []int{900, -5, 0}},
		{[]int{500, 1, 0, 7, 8}, []int{500, 1, 0}},
		{[]int{math.MaxInt, math.MinInt, math.MaxInt}, []int{900, -5, 0}},
		{[]int{math.MinInt, math.MaxInt, math.MinInt}, []int{100, 5, 0}},
	} {
		if got := Clamp(l, c.place); !slices.Equal(got, c.want) {
			t.Errorf("%v: %v, want %v", c.place, got, c.want)
		}
	}
	if got := Clamp(nil, []int{1, 2}); len(got) != 0 {
		t.Error(got)
	}
	// Of axes that aren't formed the words hold as they stand: first Least, then Most.
	odd := []api.Axis{{Least: 9, Usual: 100, Most: 3}, {Least: 1, Usual: -4, Most: 2}, {}, {Usual: 7}, {Tag: "x", Most: 9}}
	if got := Clamp(odd, []int{5}); !slices.Equal(got, []int{3, -4, 0, 7, 0}) {
		t.Error(got)
	}
	if got := Clamp(odd, []int{1, 0, 3, 9, 12}); !slices.Equal(got, []int{3, 1, 0, 0, 9}) {
		t.Error(got)
	}
}

func TestWriteOfBytes(t *testing.T) {
	b, e := Write([]api.Axis{{Tag: "wght", Least: -2, Usual: 0x01020304, Most: most32}})
	want := []byte{0, 1, 'w', 'g', 'h', 't', 255, 255, 255, 254, 1, 2, 3, 4, 127, 255, 255, 255}
	if e != api.OK || !bytes.Equal(b, want) {
		t.Error(b, e)
	}
	if b, e := Write(nil); e != api.OK || !bytes.Equal(b, []byte{0, 0}) {
		t.Error(b, e)
	}
}

func TestWriteOfAllKinds(t *testing.T) {
	for n := range 5 {
		if b, e := Write(usual(n)); e != api.OK || !bytes.Equal(b, table(usual(n))) {
			t.Errorf("%d: %x, error %d", n, b, e)
		}
	}
	for _, a := range tried() {
		l := append(usual(2), a)
		b, e := Write(l)
		if formed(l) && (e != api.OK || !bytes.Equal(b, table(l))) || !formed(l) && (e != api.ErrForm || len(b) != 0) {
			t.Fatalf("%v: %x, error %d", a, b, e)
		}
	}
	for name, l := range map[string][]api.Axis{
		"5": usual(5), "bad tag": {{Tag: "abc"}}, "twice": {{Tag: "abcd"}, {Tag: "efgh"}, {Tag: "abcd", Most: 1}}, "many": usual(70000),
	} {
		if b, e := Write(l); e != api.ErrForm || len(b) != 0 {
			t.Errorf("%s: %d bytes, error %d", name, len(b), e)
		}
	}
}

// expectRead fails unless Read answers of b what the chapter says.
func expectRead(t *testing.T, name string, b []byte) {
	t.Helper()
	want, is := isTable(b)
	got, e := Read(b)
	switch {
	case is && (e != api.OK || !slices.Equal(got, want)):
		t.Errorf("%s: %x is a table: %v, error %d", name, b, got, e)
	case !is && (e != api.ErrBad || len(got) != 0):
		t.Errorf("%s: %x is none: %v, error %d", name, b, got, e)
	}
}

func TestThereAndBack(t *testing.T) {
	r := rand.New(rand.NewSource(2))
	for range 2000 {
		l := make([]api.Axis, r.Intn(5))
		for i := range l {
			l[i] = drawnAxis(r)
			l[i].Tag = string("\x20!~a"[r.Intn(4)]) + "xy" + strconv.Itoa(i)
		}
		b, e := Write(l)
		if e != api.OK || !bytes.Equal(b, table(l)) {
			t.Fatalf("%v: %x, error %d", l, b, e)
		}
		if m, e := Read(b); e != api.OK || !slices.Equal(m, l) {
			t.Fatalf("%v: %v, error %d", l, m, e)
		}
	}
}

func TestReadOfTurnedBytes(t *testing.T) {
	for n := range 5 {
		b := table(usual(n))
		for at := range b {
			for turn := range 256 {
				x := bytes.Clone(b)
				x[at] ^= byte(turn)
				expectRead(t, strconv.Itoa(n), x)
			}
		}
	}
}

func TestReadOfOtherLengths(t *testing.T) {
	for n := range 8 {
		b := table(usual(n))
		name := strconv.Itoa(n)
		expectRead(t, name, b)
		for i := range b {
			expectRead(t, name, b[:i])
			expectRead(t, name, b[i:])
		}
		for more := range 40 {
			expectRead(t, name, append(bytes.Clone(b), make([]byte, more)...))
		}
		for count := range 300 {
			x := bytes.Clone(b)
			binary.BigEndian.PutUint16(x, uint16(count))
			expectRead(t, name, x)
		}
	}
	expectRead(t, "nil", nil)
	expectRead(t, "many", table(usual(65535)))
	expectRead(t, "endless", bytes.Repeat([]byte{255}, 1<<21))
}

func TestReadOfWrongAxes(t *testing.T) {
	for name, l := range map[string][]api.Axis{
		"5":                usual(5),
		"twice":            {{Tag: "abcd"}, {Tag: "efgh"}, {Tag: "abcd", Most: 1}},
		"Least over Usual": {{Tag: "abcd", Least: 1}},
		"Usual over Most":  {{Tag: "abcd", Most: -1, Least: -2}},
		"bad tag":          {{Tag: "ab\x7fd"}},
		"bad tags":         {{Tag: "ab\x7fd"}, {Tag: "ab\x1fd"}},
		"last is wrong":    append(usual(3), api.Axis{Tag: "abcd", Least: 5, Usual: 5, Most: 4}),
	} {
		if m, e := Read(table(l)); e != api.ErrBad || len(m) != 0 {
			t.Errorf("%s: %v, error %d", name, m, e)
		}
	}
}

func TestReadOfDrawnBytes(t *testing.T) {
	r := rand.New(rand.NewSource(3))
	for range 20000 {
		b := table(usual(r.Intn(5)))
		for range r.Intn(4) {
			b[r.Intn(len(b))] = byte(r.Intn(256))
		}
		expectRead(t, "drawn", b)
	}
}

func TestFind(t *testing.T) {
	l := []api.Axis{{Tag: "bbbb", Most: 1}, {Tag: "aaaa"}, {Tag: "bbbb"}, {Tag: ""}, {Tag: "éé?"}, {Tag: "aaaa"}, {Tag: "last"}}
	for tag, want := range map[string]int{"bbbb": 0, "aaaa": 1, "": 3, "éé?": 4, "last": 6, "cccc": -1, "bbb": -1, "bbbbb": -1, "BBBB": -1, "bbbb\x00": -1} {
		if got := Find(l, tag); got != want {
			t.Errorf("%q: %d, want %d", tag, got, want)
		}
	}
	if Find(nil, "") != api.None || Find([]api.Axis{}, "wght") != api.None {
		t.Error("of none")
	}
}

// roomy answers a copy of l that has more room, filled with x.
func roomy[T any](l []T, x T) []T {
	return append(slices.Clone(l), x, x, x)[:len(l)]
}

func TestArgumentsAreLeft(t *testing.T) {
	l, place, b := roomy(usual(4), api.Axis{Tag: "room"}), roomy([]int{7, 1 << 40, -9}, 77), roomy(table(usual(3)), 77)
	x := ratio.Ratio{Num: roomy(nat.Nat{7}, 7), Den: roomy(nat.Nat{5}, 7)}
	Formed(l)
	Clamp(l, place)
	Clamp(l[:2], place)
	Write(l)
	Write(l[:3])
	Read(b)
	Find(l, "none")
	User(l[0], x)
	if full := l[:7]; !slices.Equal(full[:4], usual(4)) || full[4].Tag != "room" || full[6].Tag != "room" {
		t.Error(full)
	}
	if !slices.Equal(place[:6], []int{7, 1 << 40, -9, 77, 77, 77}) {
		t.Error(place[:6])
	}
	if n := len(b); !bytes.Equal(b, table(usual(3))) || !bytes.Equal(b[n:n+3], []byte{77, 77, 77}) {
		t.Error(b[:n+3])
	}
	if !slices.Equal(x.Num[:4], []uint32{7, 7, 7, 7}) || !slices.Equal(x.Den[:4], []uint32{5, 7, 7, 7}) {
		t.Error(x)
	}
}

func TestAnswersAreNew(t *testing.T) {
	l, place := usual(2), []int{1, 2}
	b, _ := Write(l)
	m, _ := Read(b)
	for i := range b {
		b[i] = 1
	}
	if !slices.Equal(m, l) {
		t.Error("axes hang on the bytes that were read")
	}
	m[0].Tag = "gone"
	if again, _ := Write(l); !bytes.Equal(again, table(usual(2))) {
		t.Error("bytes hang on an earlier answer")
	}
	values := Clamp(l, place)
	values[0] = 99
	if place[0] != 1 || !slices.Equal(Clamp(l, place), []int{1, 2}) {
		t.Error("a place is handed out")
	}
	for _, answer := range []func() ratio.Ratio{
		func() ratio.Ratio { return Plain(l[0], 3) },
		func() ratio.Ratio { return Plain(l[0], 1<<30) },
		func() ratio.Ratio { return Plain(api.Axis{}, 1) },
		func() ratio.Ratio { return User(l[0], ratio.Whole(5)) },
		func() ratio.Ratio { return User(l[1], ratio.Whole(-5)) },
		func() ratio.Ratio { return User(api.Axis{}, ratio.Whole(5)) },
	} {
		want := ratio.Text(answer())
		x := answer()
		for _, limbs := range []nat.Nat{x.Num, x.Den} {
			for i := range limbs {
				limbs[i] += 3
			}
		}
		if got := ratio.Text(answer()); got != want {
			t.Errorf("%s, then %s", want, got)
		}
	}
	x := ratio.Whole(1)
	y := User(api.Axis{Tag: "wght", Most: 1}, x)
	x.Num[0], x.Den[0] = 7, 7
	if ratio.Text(y) != "1" {
		t.Error("a fraction hangs on the argument")
	}
}

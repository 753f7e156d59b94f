package bend

import (
	"bytes"
	"encoding/binary"
	"math"
	"math/big"
	"math/rand"
	"slices"
	"strconv"
	"testing"

	"foundry/api"
	"foundry/nat"
	"foundry/ratio"
)

// formed is what the chapter says, one question after the other.
func formed(l []api.Pair) bool {
	if len(l) == 0 {
		return true
	}
	if len(l) < 3 || len(l) > 16 {
		return false
	}
	named := map[api.Pair]int{{From: -16384, To: -16384}: 0, {}: 0, {From: 16384, To: 16384}: 0}
	for i, p := range l {
		for _, n := range []int{p.From, p.To} {
			if n < -16384 || n > 16384 {
				return false
			}
		}
		if i > 0 && (p.From <= l[i-1].From || p.To < l[i-1].To) {
			return false
		}
		delete(named, p)
	}
	return len(named) == 0
}

// comes is what the chapter says comes of x, by another library's fractions.
func comes(l []api.Pair, x *big.Rat) string {
	if !formed(l) {
		return "0"
	}
	if x.Cmp(big.NewRat(1, 1)) > 0 {
		x = big.NewRat(1, 1)
	}
	if x.Cmp(big.NewRat(-1, 1)) < 0 {
		x = big.NewRat(-1, 1)
	}
	if len(l) == 0 {
		return x.RatString()
	}
	y := new(big.Rat).Mul(x, big.NewRat(16384, 1))
	at := 0
	for y.Cmp(big.NewRat(int64(l[at+1].From), 1)) > 0 {
		at++
	}
	a, b := l[at], l[at+1]
	y.Sub(y, big.NewRat(int64(a.From), 1))
	y.Mul(y, big.NewRat(int64(b.To-a.To), int64(b.From-a.From)))
	y.Add(y, big.NewRat(int64(a.To), 1))
	return y.Quo(y, big.NewRat(16384, 1)).RatString()
}

// table is what the chapter says of the bytes of bends, formed or not.
func table(l [][]api.Pair) []byte {
	order := binary.BigEndian
	b := order.AppendUint16(nil, uint16(len(l)))
	for _, pairs := range l {
		b = order.AppendUint16(b, uint16(len(pairs)))
		for _, p := range pairs {
			b = order.AppendUint16(b, uint16(int16(p.From)))
			b = order.AppendUint16(b, uint16(int16(p.To)))
		}
	}
	return b
}

// isTable answers whether b is the bytes of at most four formed bends, and of which.
func isTable(b []byte) ([][]api.Pair, bool) {
	bad := false
	take := func() int {
		if len(b) < 2 {
			bad, b = true, nil
			return 0
		}
		n := int(binary.BigEndian.Uint16(b))
		b = b[2:]
		return n
	}
	var l [][]api.Pair
	n := take()
	for i := 0; i < n && !bad; i++ {
		var pairs []api.Pair
		m := take()
		for j := 0; j < m && !bad; j++ {
			from, to := int(int16(take())), int(int16(take()))
			pairs = append(pairs, api.Pair{From: from, To: to})
		}
		bad = bad || !formed(pairs)
		l = append(l, pairs)
	}
	return l, !bad && n <= 4 && len(b) == 0
}

func alike(a, b [][]api.Pair) bool {
	return slices.EqualFunc(a, b, func(x, y []api.Pair) bool { return slices.Equal(x, y) })
}

// chapter is the bend of the chapter's example.
func chapter() []api.Pair {
	return []api.Pair{{From: -16384, To: -16384}, {}, {From: 8192, To: 4096}, {From: 16384, To: 16384}}
}

// straight is a formed bend of n pairs, 3 or more, that bends nothing.
func straight(n int) []api.Pair {
	l := []api.Pair{{From: -16384, To: -16384}, {}}
	for i := range n - 3 {
		l = append(l, api.Pair{From: i + 1, To: i + 1})
	}
	return append(l, api.Pair{From: 16384, To: 16384})
}

// drawn is a formed bend: steep, flat, and with a From at every distance.
func drawn(r *rand.Rand) []api.Pair {
	if r.Intn(8) == 0 {
		return nil
	}
	l := []api.Pair{{From: -16384, To: -16384}}
	l = append(l, side(r, -16384, r.Intn(7))...)
	l = append(l, api.Pair{})
	l = append(l, side(r, 0, r.Intn(8))...)
	return append(l, api.Pair{From: 16384, To: 16384})
}

// side is n pairs that rise, above base and below base + 16384; their To may be at these.
func side(r *rand.Rand, base, n int) []api.Pair {
	wide := []int{10, 100, 16383}[r.Intn(3)]
	from, to := map[int]struct{}{}, []int{}
	for len(from) < n {
		from[base+1+r.Intn(wide)] = struct{}{}
		to = append(to, base+r.Intn(16385))
	}
	slices.Sort(to)
	var l []api.Pair
	for f := range from {
		l = append(l, api.Pair{From: f})
	}
	slices.SortFunc(l, func(a, b api.Pair) int { return a.From - b.From })
	for i := range l {
		l[i].To = to[i]
	}
	return l
}

func TestFormedByCount(t *testing.T) {
	for n := range 30 {
		l := straight(n + 3)
		if got := Formed(l); got != (n+3 <= 16) {
			t.Errorf("%d pairs: %v", n+3, got)
		}
	}
	if !Formed(nil) || !Formed([]api.Pair{}) || Formed(make([]api.Pair, 100000)) {
		t.Error("Formed")
	}
	for name, l := range map[string][]api.Pair{
		"0":            {{}},
		"both ends":    {{From: -16384, To: -16384}, {From: 16384, To: 16384}},
		"lower half":   {{From: -16384, To: -16384}, {}},
		"upper half":   {{}, {From: 16384, To: 16384}},
		"least":        {{From: -16384, To: -16384}},
		"most":         {{From: 16384, To: 16384}},
		"one for both": {{From: -16384, To: 16384}, {}, {From: 16384, To: 16384}},
	} {
		if Formed(l) {
			t.Error(name)
		}
	}
}

func TestFormedByNamedPairs(t *testing.T) {
	for _, n := range []int{3, 4, 9, 16} {
		for at := range n {
			l := slices.Delete(straight(n), at, at+1)
			if got, want := Formed(l), formed(l); got != want {
				t.Errorf("%d pairs without number %d: %v", n, at, got)
			}
		}
	}
	for name, l := range map[string][]api.Pair{
		"0 to 1":      {{From: -16384, To: -16384}, {From: 0, To: 1}, {From: 16384, To: 16384}},
		"1 to 0":      {{From: -16384, To: -16384}, {From: 1, To: 0}, {From: 16384, To: 16384}},
		"-1 to 1":     {{From: -16384, To: -16384}, {From: -1, To: -1}, {From: 1, To: 1}, {From: 16384, To: 16384}},
		"least to 0":  {{From: -16384, To: 0}, {}, {From: 16384, To: 16384}},
		"most to 0":   {{From: -16384, To: -16384}, {}, {From: 16384, To: 0}},
		"before ends": {{From: -16385, To: -16384}, {From: -16384, To: -16384}, {}, {From: 16384, To: 16384}},
		"behind ends": {{From: -16384, To: -16384}, {}, {From: 16384, To: 16384}, {From: 16385, To: 16384}},
	} {
		if Formed(l) {
			t.Error(name)
		}
	}
}

// edges are numbers about those at which something changes.
func edges() []int {
	return []int{math.MinInt, -1 << 40, -1<<32 - 8192, -65536, -32769, -32768, -16385, -16384, -16383, -8193, -8192, -8191, -4096, -2, -1,
		0, 1, 2, 4095, 4096, 4097, 8191, 8192, 8193, 16383, 16384, 16385, 32767, 32768, 65536, 1<<32 + 8192, 1 << 40, math.MaxInt}
}

func TestFormedByNumbers(t *testing.T) {
	for _, base := range [][]api.Pair{chapter(), straight(5), {{From: -16384, To: -16384}, {From: -8192, To: -4096}, {}, {From: 8192, To: 8192}, {From: 16384, To: 16384}}} {
		for at := range base {
			for _, from := range edges() {
				for _, to := range edges() {
					l := slices.Clone(base)
					l[at] = api.Pair{From: from, To: to}
					if got, want := Formed(l), formed(l); got != want {
						t.Errorf("%v: %v", l, got)
					}
				}
			}
		}
	}
}

func TestFormedByOrder(t *testing.T) {
	for at := 1; at < 16; at++ {
		l := straight(16)
		l[at-1], l[at] = l[at], l[at-1]
		if Formed(l) {
			t.Errorf("%d with the one ahead", at)
		}
		l = straight(16)
		l[at] = l[at-1]
		if Formed(l) {
			t.Errorf("%d like the one ahead", at)
		}
	}
	r := rand.New(rand.NewSource(1))
	for range 5000 {
		l := drawn(r)
		if !Formed(l) || !formed(l) {
			t.Fatalf("%v", l)
		}
		if len(l) == 0 {
			continue
		}
		p := &l[r.Intn(len(l))]
		p.From += r.Intn(3) - 1
		p.To += r.Intn(200) - 100
		if got, want := Formed(l), formed(l); got != want {
			t.Fatalf("%v: %v", l, got)
		}
	}
}

func TestBendOfTheChapter(t *testing.T) {
	for _, c := range []struct {
		n, d int64
		want string
	}{
		{1, 4, "1/8"}, {3, 4, "5/8"}, {1, 2, "1/4"}, {0, 1, "0"}, {1, 1, "1"}, {-1, 1, "-1"}, {-1, 3, "-1/3"}, {1, 3, "1/6"}, {2, 3, "1/2"},
		{-1, 7, "-1/7"}, {1, 16384, "1/32768"}, {-1, 16384, "-1/16384"}, {1, 1 << 60, "1/2305843009213693952"}, {7, 1, "1"}, {-7, 1, "-1"},
		{16385, 16384, "1"}, {-16385, 16384, "-1"}, {32769, 32768, "1"}, {-32769, 32768, "-1"}, {8191, 16384, "8191/32768"}, {8193, 16384, "8195/32768"},
		{math.MaxInt64, 1, "1"}, {math.MinInt64, 1, "-1"},
	} {
		if got := ratio.Text(Bend(chapter(), ratio.Make(c.n, c.d))); got != c.want {
			t.Errorf("%d/%d: %s, want %s", c.n, c.d, got, c.want)
		}
	}
}

// asked are fractions about every From of l and about -1, 0 and 1, and far from all.
func asked(l []api.Pair) []*big.Rat {
	var x []*big.Rat
	for _, p := range append([]api.Pair{{From: -16384}, {}, {From: 16384}}, l...) {
		for _, off := range []int64{-300, -3, -2, -1, 0, 1, 2, 3, 300} {
			x = append(x, big.NewRat(int64(p.From)*3+off, 3*16384))
		}
	}
	for _, n := range []int64{-math.MaxInt64, -1 << 50, -1 << 49, 1 << 49, 1 << 50, math.MaxInt64} {
		x = append(x, big.NewRat(n, 1), big.NewRat(1, n), big.NewRat(n/7, 1<<47))
	}
	return x
}

func fraction(x *big.Rat) ratio.Ratio {
	return ratio.Make(x.Num().Int64(), x.Denom().Int64())
}

func expectBend(t *testing.T, l []api.Pair, x *big.Rat) {
	t.Helper()
	y := Bend(l, fraction(x))
	if got, want := ratio.Text(y), comes(l, x); got != want || !ratio.Formed(y) {
		t.Fatalf("%v at %s: %s, want %s", l, x, got, want)
	}
}

func TestBendOfAllKinds(t *testing.T) {
	for _, l := range [][]api.Pair{
		nil, {}, chapter(), straight(3), straight(16),
		{{From: -16384, To: -16384}, {From: -1, To: -16384}, {}, {From: 1, To: 16384}, {From: 16384, To: 16384}},
		{{From: -16384, To: -16384}, {From: -16383, To: 0}, {}, {From: 16383, To: 0}, {From: 16384, To: 16384}},
		{{From: -16384, To: -16384}, {From: -5, To: -3}, {From: -4, To: -3}, {}, {From: 7, To: 16384}, {From: 8, To: 16384}, {From: 16384, To: 16384}},
	} {
		for _, x := range asked(l) {
			expectBend(t, l, x)
		}
	}
	r := rand.New(rand.NewSource(2))
	for range 300 {
		l := drawn(r)
		for _, x := range asked(l) {
			expectBend(t, l, x)
		}
		for range 20 {
			expectBend(t, l, big.NewRat(r.Int63n(1<<40)-1<<39, 1+r.Int63n(1<<39)))
		}
	}
}

// TestBendAtEveryCoordinate asks all whole places of one bend, and one between each two.
func TestBendAtEveryCoordinate(t *testing.T) {
	l := []api.Pair{{From: -16384, To: -16384}, {From: -9000, To: -100}, {}, {From: 3, To: 8192}, {From: 5461, To: 8192}, {From: 16384, To: 16384}}
	for n := int64(-32800); n <= 32800; n++ {
		expectBend(t, l, big.NewRat(n, 32768))
	}
}

func TestBendOfUnformed(t *testing.T) {
	for name, l := range map[string][]api.Pair{
		"0": {{}}, "upper half": chapter()[1:], "lower half": chapter()[:3], "17": straight(17), "falls": {{From: -16384, To: -16384}, {}, {From: 5, To: -1}, {From: 16384, To: 16384}},
		"twice": {{From: -16384, To: -16384}, {}, {}, {From: 16384, To: 16384}}, "no 0": {{From: -16384, To: -16384}, {From: 1, To: 1}, {From: 16384, To: 16384}},
	} {
		for _, n := range []int64{-5, -1, 0, 1, 5} {
			for _, d := range []int64{1, 7} {
				if y := Bend(l, ratio.Make(n, d)); !ratio.Formed(y) || ratio.Sign(y) != 0 {
					t.Errorf("%s at %d/%d: %v", name, n, d, y)
				}
			}
		}
	}
}

func TestBendOfWrongFractions(t *testing.T) {
	for _, l := range [][]api.Pair{nil, chapter(), straight(3), chapter()[1:]} {
		for _, x := range []ratio.Ratio{
			{}, {Neg: true}, {Num: nat.Nat{1}}, {Neg: true, Num: nat.Nat{1}}, {Num: nat.Nat{2}, Den: nat.Nat{4}},
			{Neg: true, Num: nat.Nat{2}, Den: nat.Nat{4}}, {Neg: true, Den: nat.Nat{1}}, {Num: nat.Nat{9, 0}, Den: nat.Nat{1}},
			{Neg: true, Num: nat.Nat{9}, Den: nat.Nat{1, 0}}, {Neg: true, Num: nat.Nat{1}, Den: nat.Nat{0}},
		} {
			if y := Bend(l, x); !ratio.Formed(y) || ratio.Sign(y) != 0 {
				t.Errorf("%v of %v: %v", l, x, y)
			}
		}
	}
}

func TestBendOfWideFractions(t *testing.T) {
	wide := nat.Nat(slices.Repeat([]uint32{1<<32 - 1}, 100))
	for _, l := range [][]api.Pair{nil, chapter()} {
		for neg, want := range map[bool]string{false: "1", true: "-1"} {
			if got := ratio.Text(Bend(l, ratio.Ratio{Neg: neg, Num: wide, Den: nat.Of(2)})); got != want {
				t.Errorf("%v far out: %s", l, got)
			}
		}
	}
	// A hair above 1/2, so that the whole part is 1/2's own: above it the chapter's bend rises by 3/2.
	hair := ratio.Ratio{Num: nat.Of(1), Den: wide}
	above, below := ratio.Add(ratio.Make(1, 2), hair), ratio.Sub(ratio.Make(1, 2), hair)
	if got, want := Bend(chapter(), above), ratio.Add(ratio.Make(1, 4), ratio.Mul(hair, ratio.Make(3, 2))); ratio.Cmp(got, want) != 0 {
		t.Error(ratio.Text(got))
	}
	if got, want := Bend(chapter(), below), ratio.Sub(ratio.Make(1, 4), ratio.Mul(hair, ratio.Make(1, 2))); ratio.Cmp(got, want) != 0 {
		t.Error(ratio.Text(got))
	}
}

// TestWhatFollows: the ends and 0 stay, nothing falls, and each From becomes its To.
func TestWhatFollows(t *testing.T) {
	r := rand.New(rand.NewSource(3))
	for range 500 {
		l := drawn(r)
		for _, n := range []int64{-1, 0, 1} {
			if y := Bend(l, ratio.Whole(n)); ratio.Cmp(y, ratio.Whole(n)) != 0 {
				t.Fatalf("%v at %d: %s", l, n, ratio.Text(y))
			}
		}
		for _, p := range l {
			if y := Bend(l, ratio.Make(int64(p.From), 16384)); ratio.Cmp(y, ratio.Make(int64(p.To), 16384)) != 0 {
				t.Fatalf("%v at %d: %s", l, p.From, ratio.Text(y))
			}
		}
		places := asked(l)
		for range 10 {
			places = append(places, big.NewRat(r.Int63n(1<<30)-1<<29, 1+r.Int63n(1<<30)))
		}
		slices.SortFunc(places, func(a, b *big.Rat) int { return a.Cmp(b) })
		last := ratio.Whole(-1)
		for _, x := range places {
			y := Bend(l, fraction(x))
			if ratio.Cmp(y, last) < 0 || ratio.Cmp(y, ratio.Whole(1)) > 0 {
				t.Fatalf("%v at %s: %s behind %s", l, x, ratio.Text(y), ratio.Text(last))
			}
			last = y
		}
	}
}

func TestPlain(t *testing.T) {
	for _, l := range [][]api.Pair{nil, {}, straight(3), straight(4), straight(16)} {
		if !Plain(l) {
			t.Errorf("%v", l)
		}
	}
	for name, l := range map[string][]api.Pair{
		"chapter":    chapter(),
		"17":         straight(17),
		"0":          {{}},
		"upper half": straight(3)[1:],
		"twice":      {{From: -16384, To: -16384}, {}, {}, {From: 16384, To: 16384}},
		"falls":      {{From: -16384, To: -16384}, {}, {From: 2, To: 2}, {From: 1, To: 1}, {From: 16384, To: 16384}},
	} {
		if Plain(l) {
			t.Error(name)
		}
	}
	for at := range 16 {
		for _, off := range []int{-1, 1} {
			l := straight(16)
			l[at].To += off
			if Plain(l) {
				t.Errorf("number %d moved by %d", at, off)
			}
		}
	}
	for _, p := range []api.Pair{{From: -5, To: -4}, {From: -5, To: -6}, {From: 5, To: 4}, {From: 5, To: 6}} {
		l := append(straight(3), p)
		slices.SortFunc(l, func(a, b api.Pair) int { return a.From - b.From })
		if !Formed(l) || Plain(l) {
			t.Errorf("%v", l)
		}
	}
}

func TestWriteOfBytes(t *testing.T) {
	l := []api.Pair{{From: -16384, To: -16384}, {From: -2, To: -258}, {}, {From: 258, To: 772}, {From: 16384, To: 16384}}
	b, e := Write([][]api.Pair{nil, l, {}})
	want := []byte{0, 3, 0, 0, 0, 5, 0xc0, 0, 0xc0, 0, 255, 254, 254, 254, 0, 0, 0, 0, 1, 2, 3, 4, 0x40, 0, 0x40, 0, 0, 0}
	if e != api.OK || !bytes.Equal(b, want) {
		t.Error(b, e)
	}
	for _, none := range [][][]api.Pair{nil, {}} {
		if b, e := Write(none); e != api.OK || !bytes.Equal(b, []byte{0, 0}) {
			t.Error(b, e)
		}
	}
}

func TestWriteOfAllKinds(t *testing.T) {
	for n := range 10 {
		b, e := Write(slices.Repeat([][]api.Pair{chapter()}, n))
		if n <= 4 && (e != api.OK || !bytes.Equal(b, table(slices.Repeat([][]api.Pair{chapter()}, n)))) || n > 4 && (e != api.ErrForm || len(b) != 0) {
			t.Errorf("%d: %x, error %d", n, b, e)
		}
	}
	for _, many := range [][][]api.Pair{make([][]api.Pair, 5), make([][]api.Pair, 70000)} {
		if b, e := Write(many); e != api.ErrForm || len(b) != 0 {
			t.Errorf("%d: %x, error %d", len(many), b, e)
		}
	}
	for _, wrong := range [][]api.Pair{{{}}, chapter()[1:], straight(17), {{From: -16384, To: -16384}, {From: 1, To: 1}, {From: 16384, To: 16384}}} {
		for at := range 4 {
			l := [][]api.Pair{nil, chapter(), straight(16), nil}
			l[at] = wrong
			if b, e := Write(l); e != api.ErrForm || len(b) != 0 {
				t.Errorf("%v at %d: %x, error %d", wrong, at, b, e)
			}
		}
	}
}

func TestThereAndBack(t *testing.T) {
	r := rand.New(rand.NewSource(4))
	for range 2000 {
		l := make([][]api.Pair, r.Intn(5))
		for i := range l {
			l[i] = drawn(r)
		}
		b, e := Write(l)
		if e != api.OK || !bytes.Equal(b, table(l)) {
			t.Fatalf("%v: %x, error %d", l, b, e)
		}
		if m, e := Read(b); e != api.OK || !alike(m, l) {
			t.Fatalf("%v: %v, error %d", l, m, e)
		}
	}
}

// expectRead fails unless Read answers of b what the chapter says.
func expectRead(t *testing.T, name string, b []byte) {
	t.Helper()
	want, is := isTable(b)
	got, e := Read(b)
	switch {
	case is && (e != api.OK || !alike(got, want)):
		t.Errorf("%s: %x is a table: %v, error %d", name, b, got, e)
	case !is && (e != api.ErrBad || len(got) != 0):
		t.Errorf("%s: %x is none: %v, error %d", name, b, got, e)
	}
}

// tables are formed bends, four and fewer.
func tables() [][][]api.Pair {
	return [][][]api.Pair{nil, {nil}, {chapter()}, {nil, straight(3)}, {straight(4), nil, chapter()}, {nil, nil, nil, nil}, {chapter(), straight(16), nil, straight(3)}}
}

func TestReadOfTurnedBytes(t *testing.T) {
	for i, l := range tables() {
		b := table(l)
		for at := range b {
			for turn := range 256 {
				x := bytes.Clone(b)
				x[at] ^= byte(turn)
				expectRead(t, strconv.Itoa(i), x)
			}
		}
	}
}

func TestReadOfOtherLengths(t *testing.T) {
	for i, l := range tables() {
		b := table(l)
		name := strconv.Itoa(i)
		expectRead(t, name, b)
		for i := range b {
			expectRead(t, name, b[:i])
			expectRead(t, name, b[i:])
		}
		for more := range 40 {
			expectRead(t, name, append(bytes.Clone(b), make([]byte, more)...))
		}
		for count := range 300 {
			x := bytes.Clone(b)
			binary.BigEndian.PutUint16(x, uint16(count))
			expectRead(t, name, x)
		}
	}
	expectRead(t, "nil", nil)
	expectRead(t, "5 without pairs", table(make([][]api.Pair, 5)))
	expectRead(t, "many", table(make([][]api.Pair, 65535)))
	expectRead(t, "5", table(slices.Repeat([][]api.Pair{chapter()}, 5)))
	expectRead(t, "endless", bytes.Repeat([]byte{255}, 1<<21))
	expectRead(t, "many pairs", table([][]api.Pair{make([]api.Pair, 65535)}))
	expectRead(t, "many lack", []byte{0, 4, 255, 255, 255, 255, 255, 255})
}

func TestReadOfWrongBends(t *testing.T) {
	for name, wrong := range map[string][]api.Pair{
		"0": {{}}, "upper half": chapter()[1:], "17": straight(17), "falls": {{From: -16384, To: -16384}, {}, {From: 5, To: -1}, {From: 16384, To: 16384}},
		"twice": {{From: -16384, To: -16384}, {}, {}, {From: 16384, To: 16384}}, "no coordinate": append(straight(3), api.Pair{From: 16385, To: 16385}),
	} {
		for at := range 4 {
			l := [][]api.Pair{nil, chapter(), straight(16), nil}
			l[at] = wrong
			if m, e := Read(table(l)); e != api.ErrBad || len(m) != 0 {
				t.Errorf("%s at %d: %v, error %d", name, at, m, e)
			}
		}
	}
}

func TestReadOfDrawnBytes(t *testing.T) {
	r := rand.New(rand.NewSource(5))
	for range 20000 {
		all := tables()
		b := table(all[r.Intn(len(all))])
		for range r.Intn(4) {
			b[r.Intn(len(b))] = byte(r.Intn(256))
		}
		expectRead(t, "drawn", b)
	}
}

// roomy answers a copy of l that has more room, filled with x.
func roomy[T any](l []T, x T) []T {
	return append(slices.Clone(l), x, x, x)[:len(l)]
}

func TestArgumentsAreLeft(t *testing.T) {
	room := api.Pair{From: 77, To: 78}
	pairs := roomy(chapter(), room)
	l, b := roomy([][]api.Pair{pairs, nil, pairs}, []api.Pair{room}), roomy(table(tables()[6]), 77)
	x := ratio.Ratio{Num: roomy(nat.Nat{3}, 7), Den: roomy(nat.Nat{5}, 7)}
	Formed(pairs)
	Plain(pairs)
	Bend(pairs, x)
	Bend(nil, x)
	Write(l)
	Read(b)
	if full := pairs[:7]; !slices.Equal(full[:4], chapter()) || full[4] != room || full[6] != room {
		t.Error(full)
	}
	if full := l[:6]; !alike(full[:3], [][]api.Pair{chapter(), nil, chapter()}) || full[3][0] != room || full[5][0] != room {
		t.Error(full)
	}
	if n := len(b); !bytes.Equal(b, table(tables()[6])) || !bytes.Equal(b[n:n+3], []byte{77, 77, 77}) {
		t.Error(b[:n+3])
	}
	if !slices.Equal(x.Num[:4], []uint32{3, 7, 7, 7}) || !slices.Equal(x.Den[:4], []uint32{5, 7, 7, 7}) {
		t.Error(x)
	}
}

func TestAnswersAreNew(t *testing.T) {
	l := [][]api.Pair{chapter(), chapter()}
	b, _ := Write(l)
	m, _ := Read(b)
	for i := range b {
		b[i] = 1
	}
	if !alike(m, l) {
		t.Error("bends hang on the bytes that were read")
	}
	for i := range m[0][:cap(m[0])] {
		m[0][:cap(m[0])][i].To = 99
	}
	if !slices.Equal(m[1], chapter()) {
		t.Error("two bends of one answer share memory")
	}
	if again, _ := Write(l); !bytes.Equal(again, table([][]api.Pair{chapter(), chapter()})) {
		t.Error("bytes hang on an earlier answer")
	}
}

func TestFractionsAreNew(t *testing.T) {
	x := ratio.Make(1, 3)
	for i, answer := range []func() ratio.Ratio{
		func() ratio.Ratio { return Bend(nil, x) },
		func() ratio.Ratio { return Bend(chapter(), x) },
		func() ratio.Ratio { return Bend(straight(3), x) },
		func() ratio.Ratio { return Bend(nil, ratio.Whole(5)) },
		func() ratio.Ratio { return Bend(nil, ratio.Whole(-5)) },
		func() ratio.Ratio { return Bend(chapter()[1:], x) },
	} {
		want := ratio.Text(answer())
		y := answer()
		for _, limbs := range []nat.Nat{y.Num, y.Den} {
			for j := range limbs[:cap(limbs)] {
				limbs[:cap(limbs)][j] += 3
			}
		}
		if got := ratio.Text(answer()); got != want {
			t.Errorf("%d: %s, then %s", i, want, got)
		}
		if ratio.Text(x) != "1/3" {
			t.Fatalf("%d: the argument is handed out", i)
		}
	}
}

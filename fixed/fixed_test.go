package fixed

import (
	"math"
	"math/big"
	"slices"
	"testing"

	"foundry/api"
	"foundry/nat"
	"foundry/ratio"
)

// value is x by another library.
func value(x ratio.Ratio) *big.Rat {
	v, ok := new(big.Rat).SetString(ratio.Text(x))
	if !ok {
		panic(ratio.Text(x))
	}
	return v
}

// rounded is the greatest whole number not above x and one half; Euclid's quotient is that, where the divisor is above 0.
func rounded(x *big.Rat) *big.Int {
	up := new(big.Rat).Add(x, big.NewRat(1, 2))
	return new(big.Int).Div(up.Num(), up.Denom())
}

// expect fails unless got is formed and has the value want.
func expect(t *testing.T, call string, got ratio.Ratio, want *big.Rat, args ...int) {
	t.Helper()
	if !ratio.Formed(got) || value(got).Cmp(want) != 0 {
		t.Errorf("%s%v: %v, want %v", call, args, got, want)
	}
}

// whole numbers at which signs, widths and limits go wrong
func wholes() []int {
	return []int{
		0, 1, -1, 2, -2, 3, -5, 7, 8191, 8192, -8192, 16383, 16384, 16385, -16383, -16384, -16385,
		32767, 32768, -32768, -32769, 65535, 65536, -65536, 98304, math.MaxInt32, math.MinInt32,
		1 << 32, -1 << 32, 1 << 40, -1 << 40, math.MaxInt - 1, math.MaxInt, math.MinInt, math.MinInt + 1,
	}
}

// unformed count as 0, though most of them look like something else.
func unformed() []ratio.Ratio {
	return []ratio.Ratio{
		{},
		{Neg: true},
		{Num: nat.Nat{1}},
		{Num: nat.Nat{1}, Den: nat.Nat{0}},
		{Num: nat.Nat{2}, Den: nat.Nat{2}},
		{Neg: true, Num: nat.Nat{6}, Den: nat.Nat{4}},
		{Num: nat.Nat{1, 0}, Den: nat.Nat{1}},
		{Num: nat.Nat{1}, Den: nat.Nat{1, 0}},
		{Neg: true, Num: nat.Nat{0, 0, 9, 0}, Den: nat.Nat{1}},
		{Neg: true, Den: nat.Nat{1}},
		{Den: nat.Nat{2}},
	}
}

// fractions lie close about the edges of coordinates and fields, half steps of both, and far beyond 64 bits.
func fractions() []ratio.Ratio {
	list := unformed()
	tiny := ratio.Make(1, 1<<50)
	for _, n := range wholes() {
		for _, d := range []int64{1, 2, 3, 7, 16384, 32768, 65536, 1 << 40, math.MaxInt64} {
			x := ratio.Make(int64(n), d)
			list = append(list, x, ratio.Add(x, tiny), ratio.Sub(x, tiny), ratio.Mul(x, ratio.Whole(math.MaxInt64)))
		}
	}
	for n := int64(-9); n <= 9; n++ {
		for _, edge := range []int64{-65537, -65536, 65534, 65535} {
			list = append(list, ratio.Make(2*edge+n, 4))
		}
		for _, edge := range []int64{-16384, -1, 0, 1, 16384} {
			list = append(list, ratio.Make(4*edge+n, 4*16384))
		}
	}
	return list
}

func TestCoordinate(t *testing.T) {
	for _, n := range wholes() {
		if got, want := Coordinate(n), n >= -16384 && n <= 16384; got != want {
			t.Error(n, got)
		}
	}
}

func TestOf14AndOf16(t *testing.T) {
	for _, n := range wholes() {
		expect(t, "Of14", Of14(n), big.NewRat(int64(n), 16384), n)
		expect(t, "Of16", Of16(n), big.NewRat(int64(n), 65536), n)
	}
	for want, x := range map[string]ratio.Ratio{
		"1/2": Of14(8192), "-1": Of14(-16384), "0": Of14(0), "1/16384": Of14(1),
		"-3/2": Of16(-98304), "400": Of16(400 << 16), "1/65536": Of16(1), "-32768": Of16(math.MinInt32),
	} {
		if got := ratio.Text(x); got != want {
			t.Error(want, got)
		}
	}
}

// nearest is what the chapter says To14 answers.
func nearest(x ratio.Ratio) int {
	n := rounded(new(big.Rat).Mul(value(x), big.NewRat(16384, 1)))
	if n.Cmp(big.NewInt(16384)) > 0 {
		return 16384
	}
	if n.Cmp(big.NewInt(-16384)) < 0 {
		return -16384
	}
	return int(n.Int64())
}

func TestTo14(t *testing.T) {
	for _, x := range fractions() {
		if got, want := To14(x), nearest(x); got != want {
			t.Errorf("To14(%s): %d, want %d", ratio.Text(x), got, want)
		}
	}
	for _, x := range unformed() {
		if n := To14(x); n != 0 {
			t.Error(x, n)
		}
	}
}

func TestTo14AtTheEdges(t *testing.T) {
	far := ratio.Mul(ratio.Whole(math.MaxInt64), ratio.Whole(math.MaxInt64))
	cases := []struct {
		x    ratio.Ratio
		want int
	}{
		{ratio.Make(1, 3), 5461},
		{ratio.Make(-1, 3), -5461},
		{ratio.Make(1, 32768), 1},
		{ratio.Make(-1, 32768), 0},
		{ratio.Make(-3, 32768), -1},
		{ratio.Make(32767, 32768), 16384},
		{ratio.Make(-32767, 32768), -16383},
		{ratio.Make(-65535, 65536), -16384},
		{ratio.Make(65537, 65536), 16384},
		{ratio.Make(-9, 4), -16384},
		{ratio.Whole(1 << 48), 16384},
		{ratio.Whole(1 << 49), 16384},
		{ratio.Whole(-1 << 49), -16384},
		{ratio.Whole(-1<<49 - 1), -16384},
		{ratio.Whole(math.MaxInt64), 16384},
		{ratio.Whole(math.MinInt64), -16384},
		{far, 16384},
		{ratio.Sub(ratio.Whole(0), far), -16384},
	}
	for _, c := range cases {
		if n := To14(c.x); n != c.want {
			t.Error(ratio.Text(c.x), n, c.want)
		}
	}
}

func TestField(t *testing.T) {
	for _, x := range fractions() {
		n := rounded(value(x))
		want, wantErr := 0, api.ErrRange
		if n.IsInt64() && n.Int64() >= -32768 && n.Int64() <= 32767 {
			want, wantErr = int(n.Int64()), api.OK
		}
		if got, e := Field(x); got != want || e != wantErr {
			t.Errorf("Field(%s): %d %d, want %d %d", ratio.Text(x), got, e, want, wantErr)
		}
	}
	for _, x := range unformed() {
		if n, e := Field(x); n != 0 || e != api.OK {
			t.Error(x, n, e)
		}
	}
}

func TestFieldAtTheEdges(t *testing.T) {
	cases := []struct {
		x    ratio.Ratio
		want int
		err  api.Errno
	}{
		{ratio.Make(5, 2), 3, api.OK},
		{ratio.Make(-5, 2), -2, api.OK},
		{ratio.Whole(32767), 32767, api.OK},
		{ratio.Make(131069, 4), 32767, api.OK},
		{ratio.Make(65535, 2), 0, api.ErrRange},
		{ratio.Whole(32768), 0, api.ErrRange},
		{ratio.Whole(-32768), -32768, api.OK},
		{ratio.Make(-65537, 2), -32768, api.OK},
		{ratio.Make(-131075, 4), 0, api.ErrRange},
		{ratio.Whole(-32769), 0, api.ErrRange},
		{ratio.Whole(65536), 0, api.ErrRange},
		{ratio.Whole(1<<32 + 5), 0, api.ErrRange},
		{ratio.Whole(math.MaxInt64), 0, api.ErrRange},
		{ratio.Whole(math.MinInt64), 0, api.ErrRange},
		{ratio.Add(ratio.Whole(math.MaxInt64), ratio.Whole(1)), 0, api.ErrRange},
		{ratio.Mul(ratio.Whole(math.MinInt64), ratio.Whole(8)), 0, api.ErrRange},
	}
	for _, c := range cases {
		if n, e := Field(c.x); n != c.want || e != c.err {
			t.Error(ratio.Text(c.x), n, e)
		}
	}
}

func TestClamp(t *testing.T) {
	cases := [][4]int{
		{5, 7, 9, 7}, {7, 7, 9, 7}, {8, 7, 9, 8}, {9, 7, 9, 9}, {11, 7, 9, 9}, {-3, 4, 4, 4}, {6, 4, 4, 4},
		{math.MinInt, -1, 1, -1}, {math.MaxInt, -1, 1, 1}, {3, math.MinInt, math.MaxInt, 3},
		{5, 9, 7, 7}, {8, 9, 7, 7}, {11, 9, 7, 7}, {0, math.MaxInt, math.MinInt, math.MinInt},
	}
	for _, c := range cases {
		if n := Clamp(c[0], c[1], c[2]); n != c[3] {
			t.Error(c, n)
		}
	}
}

// between is the chapter's words, by another library.
func between(a, b, n, d int) *big.Rat {
	for _, x := range []int{a, b, n, d} {
		if x < -1<<40 || x > 1<<40 {
			return new(big.Rat)
		}
	}
	start := big.NewRat(int64(a), 1)
	if d == 0 {
		return start
	}
	way := new(big.Rat).Sub(big.NewRat(int64(b), 1), start)
	way.Mul(way, big.NewRat(int64(n), int64(d)))
	return way.Add(start, way)
}

func TestBetween(t *testing.T) {
	list := []int{0, 1, -1, 4, -7, 16384, 1<<40 - 1, 1 << 40, -1 << 40, 1<<40 + 1, -1<<40 - 1, math.MaxInt, math.MinInt}
	for _, a := range list {
		for _, b := range list {
			for _, n := range list {
				for _, d := range list {
					expect(t, "Between", Between(a, b, n, d), between(a, b, n, d), a, b, n, d)
				}
			}
		}
	}
}

func TestBetweenAtTheEdges(t *testing.T) {
	const far = 1 << 40
	cases := []struct {
		args [4]int
		want string
	}{
		{[4]int{10, 20, 1, 4}, "25/2"},
		{[4]int{20, 10, 1, 4}, "35/2"},
		{[4]int{10, 20, -1, 4}, "15/2"},
		{[4]int{10, 20, 6, 4}, "25"},
		{[4]int{10, 20, 1, -4}, "15/2"},
		{[4]int{3, 9, 1, 0}, "3"},
		{[4]int{3, 9, 0, 0}, "3"},
		{[4]int{-far, far, far, 1}, "2417851639228158837784576"},
		{[4]int{far, far, far, far}, "1099511627776"},
		{[4]int{far + 1, 0, 1, 1}, "0"},
		{[4]int{3, far + 1, 1, 1}, "0"},
		{[4]int{3, 9, -far - 1, 1}, "0"},
		{[4]int{3, 9, 1, far + 1}, "0"},
		{[4]int{3, far + 1, 1, 0}, "0"},
		{[4]int{3, 9, math.MinInt, 0}, "0"},
	}
	for _, c := range cases {
		if got := ratio.Text(Between(c.args[0], c.args[1], c.args[2], c.args[3])); got != c.want {
			t.Error(c.args, got, c.want)
		}
	}
}

func TestTo14UndoesOf14(t *testing.T) {
	for n := -16384; n <= 16384; n++ {
		if got := To14(Of14(n)); got != n {
			t.Error(n, got)
		}
	}
}

func TestGreaterFractionsNeverComeToLess(t *testing.T) {
	list := fractions()
	slices.SortFunc(list, ratio.Cmp)
	lastField, hasField, left := 0, false, false
	for i, x := range list {
		if i > 0 && To14(x) < To14(list[i-1]) {
			t.Error("To14", ratio.Text(list[i-1]), ratio.Text(x))
		}
		n, e := Field(x)
		if e != api.OK {
			left = hasField
			continue
		}
		if hasField && n < lastField || left {
			t.Error("Field", ratio.Text(x), n, lastField)
		}
		lastField, hasField = n, true
	}
	if !hasField || !left {
		t.Error("no fractions within the fields, or none above them")
	}
}

func TestBetweenIsItsEnds(t *testing.T) {
	list := []int{0, 1, -1, 3, -32768, 16384, 1 << 40, -1 << 40}
	for _, a := range list {
		for _, b := range list {
			for _, d := range list {
				expect(t, "Between", Between(a, b, 0, d), big.NewRat(int64(a), 1), a, b, 0, d)
				if d != 0 {
					expect(t, "Between", Between(a, b, d, d), big.NewRat(int64(b), 1), a, b, d, d)
				}
			}
		}
	}
}

// roomy answers a with three limbs of 9 in the room behind it, and all of that.
func roomy(a nat.Nat) (nat.Nat, nat.Nat) {
	whole := append(append(nat.Nat{}, a...), 9, 9, 9)
	return whole[:len(a)], whole
}

func TestArgumentsAreLeftAsTheyAre(t *testing.T) {
	for _, x := range fractions() {
		num, wholeNum := roomy(x.Num)
		den, wholeDen := roomy(x.Den)
		keptNum, keptDen := slices.Clone(wholeNum), slices.Clone(wholeDen)
		y := ratio.Ratio{Neg: x.Neg, Num: num, Den: den}
		To14(y)
		Field(y)
		if !slices.Equal(wholeNum, keptNum) || !slices.Equal(wholeDen, keptDen) {
			t.Error(x, wholeNum, wholeDen)
		}
	}
}

func TestAnswersShareNoMemory(t *testing.T) {
	calls := map[string]func() ratio.Ratio{
		"Of14":         func() ratio.Ratio { return Of14(-5) },
		"Of16":         func() ratio.Ratio { return Of16(7) },
		"Between":      func() ratio.Ratio { return Between(10, 20, 1, 4) },
		"Between at 0": func() ratio.Ratio { return Between(3, 9, 1, 0) },
		"Between's 0":  func() ratio.Ratio { return Between(1<<41, 9, 1, 1) },
	}
	for name, call := range calls {
		first, again := call(), call()
		want := ratio.Text(again)
		for _, limbs := range []nat.Nat{first.Num, first.Den} {
			limbs = limbs[:cap(limbs)]
			for i := range limbs {
				limbs[i] = 123456789
			}
		}
		if ratio.Text(again) != want || ratio.Text(call()) != want {
			t.Error(name, "answers of two calls share memory")
		}
	}
}

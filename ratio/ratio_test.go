package ratio

import (
	"math"
	"math/big"
	"slices"
	"testing"

	"foundry/nat"
)

const top = math.MaxUint32

// natural is a list's value, reckoned by another library.
func natural(a nat.Nat) *big.Int {
	sum := new(big.Int)
	for i := len(a) - 1; i >= 0; i-- {
		sum.Lsh(sum, 32)
		sum.Or(sum, new(big.Int).SetUint64(uint64(a[i])))
	}
	return sum
}

// wellFormed asks the chapter's words one by one.
func wellFormed(x Ratio) bool {
	for _, a := range []nat.Nat{x.Num, x.Den} {
		if len(a) > 0 && a[len(a)-1] == 0 {
			return false
		}
	}
	num, den := natural(x.Num), natural(x.Den)
	if den.Sign() == 0 || new(big.Int).GCD(nil, nil, num, den).Cmp(big.NewInt(1)) != 0 {
		return false
	}
	return num.Sign() != 0 || !x.Neg
}

// value is what the chapter says x counts as.
func value(x Ratio) *big.Rat {
	if !wellFormed(x) {
		return new(big.Rat)
	}
	v := new(big.Rat).SetFrac(natural(x.Num), natural(x.Den))
	if x.Neg {
		v.Neg(v)
	}
	return v
}

// expect fails unless got is formed and has the value want.
func expect(t *testing.T, call string, got Ratio, want *big.Rat, args ...Ratio) {
	t.Helper()
	if !wellFormed(got) || !Formed(got) || value(got).Cmp(want) != 0 {
		t.Errorf("%s%v: %v, want %v", call, args, got, want)
	}
}

// unformed are fractions of which each breaks the form in one way, or in several.
func unformed() []Ratio {
	return []Ratio{
		{},
		{Neg: true},
		{Num: nat.Nat{1}},
		{Neg: true, Num: nat.Nat{1}, Den: nat.Nat{}},
		{Num: nat.Nat{3}},
		{Num: nat.Nat{3}, Den: nat.Nat{}},
		{Num: nat.Nat{3}, Den: nat.Nat{0}},
		{Num: nat.Nat{3, 0}, Den: nat.Nat{2}},
		{Num: nat.Nat{3}, Den: nat.Nat{2, 0}},
		{Num: nat.Nat{0}, Den: nat.Nat{1}},
		{Neg: true, Den: nat.Nat{1}},
		{Den: nat.Nat{2}},
		{Num: nat.Nat{2}, Den: nat.Nat{4}},
		{Neg: true, Num: nat.Nat{6}, Den: nat.Nat{3}},
		{Num: nat.Nat{0, 0, 5}, Den: nat.Nat{0, 7}},
	}
}

// whole numbers at which signs and widths go wrong
func wholes() []int64 {
	return []int64{0, 1, -1, 2, -2, 3, -3, 7, 16384, -16384, top, top + 1, -top - 1, 1 << 40, math.MaxInt64 - 1, math.MaxInt64, math.MinInt64, math.MinInt64 + 1}
}

// long are formed fractions of several limbs, made by a fixed rule without the package's own calls.
func long(count int) []Ratio {
	state := uint64(5)
	next := func(below uint64) uint64 {
		state = state*6364136223846793005 + 1442695040888963407
		return state >> 33 % below
	}
	limbs := func() *big.Int {
		sum := new(big.Int)
		for range next(5) {
			sum.Lsh(sum, 32).Or(sum, new(big.Int).SetUint64(next(1<<31)<<1|next(2)))
		}
		return sum
	}
	list := make([]Ratio, count)
	for i := range list {
		den := limbs()
		if den.Sign() == 0 {
			den.SetInt64(int64(1 + next(6)))
		}
		r := new(big.Rat).SetFrac(limbs(), den)
		list[i] = Ratio{Neg: r.Sign() != 0 && next(2) == 1, Num: toNat(r.Num()), Den: toNat(r.Denom())}
	}
	return list
}

func toNat(n *big.Int) nat.Nat {
	var a nat.Nat
	for left := new(big.Int).Set(n); left.Sign() > 0; left.Rsh(left, 32) {
		a = append(a, uint32(left.Uint64()))
	}
	return a
}

// fractions are small ones, ones at the edges of int64, long ones, and ones that aren't formed.
func fractions() []Ratio {
	list := append(unformed(), long(30)...)
	for n := int64(-4); n <= 4; n++ {
		for d := int64(1); d <= 4; d++ {
			list = append(list, Make(n, d))
		}
	}
	for _, n := range wholes() {
		list = append(list, Whole(n), Make(n, 3), Make(3, n))
	}
	return list
}

func eachPair(check func(x, y Ratio)) {
	list := fractions()
	for _, x := range list {
		for _, y := range list {
			check(x, y)
		}
	}
	list = long(600)
	for i, x := range list[1:] {
		check(x, list[i])
		check(x, x)
	}
}

func TestFormed(t *testing.T) {
	for i, x := range unformed() {
		if Formed(x) {
			t.Error(i, x)
		}
	}
	formed := []Ratio{
		{Den: nat.Nat{1}},
		{Num: nat.Nat{}, Den: nat.Nat{1}},
		{Num: nat.Nat{1}, Den: nat.Nat{1}},
		{Neg: true, Num: nat.Nat{3}, Den: nat.Nat{2}},
		{Num: nat.Nat{0, 1}, Den: nat.Nat{3}},
		{Neg: true, Num: nat.Nat{1, 2, 3}, Den: nat.Nat{0, 0, 1}},
	}
	for _, x := range append(formed, long(300)...) {
		if !Formed(x) {
			t.Error(x)
		}
	}
}

func TestWholeAndMake(t *testing.T) {
	for _, n := range wholes() {
		expect(t, "Whole", Whole(n), new(big.Rat).SetInt64(n))
		for _, d := range wholes() {
			want := new(big.Rat)
			if d != 0 {
				want.SetFrac(big.NewInt(n), big.NewInt(d))
			}
			expect(t, "Make", Make(n, d), want)
		}
	}
	if x := Make(6, -4); !x.Neg || !slices.Equal(x.Num, nat.Nat{3}) || !slices.Equal(x.Den, nat.Nat{2}) {
		t.Error(x)
	}
	if x := Make(5, 0); x.Neg || len(x.Num) != 0 || !slices.Equal(x.Den, nat.Nat{1}) {
		t.Error(x)
	}
}

func TestSumsAndProducts(t *testing.T) {
	eachPair(func(x, y Ratio) {
		a, b := value(x), value(y)
		expect(t, "Add", Add(x, y), new(big.Rat).Add(a, b), x, y)
		expect(t, "Sub", Sub(x, y), new(big.Rat).Sub(a, b), x, y)
		expect(t, "Mul", Mul(x, y), new(big.Rat).Mul(a, b), x, y)
		want := new(big.Rat)
		if b.Sign() != 0 {
			want.Quo(a, b)
		}
		quotient, ok := Quo(x, y)
		expect(t, "Quo", quotient, want, x, y)
		if ok != (b.Sign() != 0) {
			t.Error("Quo", x, y, ok)
		}
	})
}

func TestQuoByZero(t *testing.T) {
	for _, zero := range append(unformed(), Whole(0)) {
		for _, x := range []Ratio{{}, Whole(0), Whole(1), Make(-7, 3)} {
			q, ok := Quo(x, zero)
			if ok || q.Neg || len(q.Num) != 0 || !slices.Equal(q.Den, nat.Nat{1}) {
				t.Error(x, zero, q, ok)
			}
		}
	}
	if q, ok := Quo(Whole(0), Make(-2, 3)); !ok || !slices.Equal(q.Den, nat.Nat{1}) || q.Neg || len(q.Num) != 0 {
		t.Error(q, ok)
	}
}

func TestCmpAndSign(t *testing.T) {
	eachPair(func(x, y Ratio) {
		if got, want := Cmp(x, y), value(x).Cmp(value(y)); got != want {
			t.Errorf("Cmp(%v, %v): %d, want %d", x, y, got, want)
		}
		if got, want := Sign(x), value(x).Sign(); got != want {
			t.Errorf("Sign(%v): %d, want %d", x, got, want)
		}
	})
}

// lower is the greatest whole number not above x: Euclid's quotient is that, where the divisor is above 0.
func lower(x *big.Rat) *big.Int {
	return new(big.Int).Div(x.Num(), x.Denom())
}

func expectWhole(t *testing.T, call string, x Ratio, got int64, ok bool, want *big.Int) {
	t.Helper()
	if ok != want.IsInt64() || ok && got != want.Int64() || !ok && got != 0 {
		t.Errorf("%s(%v): %d %v, want %v", call, x, got, ok, want)
	}
}

func TestFloorAndRound(t *testing.T) {
	half := big.NewRat(1, 2)
	list := fractions()
	for _, n := range wholes() {
		for _, part := range []Ratio{Make(1, 2), Make(1, 3), Make(2, 3), Make(1, 1<<40)} {
			list = append(list, Add(Whole(n), part), Sub(Whole(n), part))
		}
		for _, m := range wholes() {
			list = append(list, Add(Whole(n), Whole(m)), Add(Make(n, 2), Whole(m)))
		}
	}
	for _, x := range append(list, long(600)...) {
		n, ok := Floor(x)
		expectWhole(t, "Floor", x, n, ok, lower(value(x)))
		n, ok = Round(x)
		expectWhole(t, "Round", x, n, ok, lower(new(big.Rat).Add(value(x), half)))
	}
}

func TestFloorAndRoundAtTheEdges(t *testing.T) {
	half, third := Make(1, 2), Make(1, 3)
	most, least := Whole(math.MaxInt64), Whole(math.MinInt64)
	cases := []struct {
		x         Ratio
		floor     int64
		floored   bool
		round     int64
		isRounded bool
	}{
		{Make(5, 2), 2, true, 3, true},
		{Make(-5, 2), -3, true, -2, true},
		{Make(-1, 3), -1, true, 0, true},
		{Make(-1, 2), -1, true, 0, true},
		{Make(1, 2), 0, true, 1, true},
		{most, math.MaxInt64, true, math.MaxInt64, true},
		{Add(most, third), math.MaxInt64, true, math.MaxInt64, true},
		{Add(most, half), math.MaxInt64, true, 0, false},
		{Add(most, Whole(1)), 0, false, 0, false},
		{least, math.MinInt64, true, math.MinInt64, true},
		{Sub(least, third), 0, false, math.MinInt64, true},
		{Sub(least, half), 0, false, math.MinInt64, true},
		{Sub(least, Make(2, 3)), 0, false, 0, false},
		{Sub(least, Whole(1)), 0, false, 0, false},
		{Mul(most, most), 0, false, 0, false},
		{Mul(most, least), 0, false, 0, false},
	}
	for _, c := range cases {
		if n, ok := Floor(c.x); n != c.floor || ok != c.floored {
			t.Error("Floor", Text(c.x), n, ok)
		}
		if n, ok := Round(c.x); n != c.round || ok != c.isRounded {
			t.Error("Round", Text(c.x), n, ok)
		}
	}
}

func TestText(t *testing.T) {
	for _, x := range append(fractions(), long(300)...) {
		if got, want := Text(x), value(x).RatString(); got != want {
			t.Errorf("Text(%v): %q, want %q", x, got, want)
		}
	}
	for want, x := range map[string]Ratio{"-3/2": Make(6, -4), "0": {}, "-7": Whole(-7), "1/4294967296": Make(1, 1<<32)} {
		if got := Text(x); got != want {
			t.Error(want, got)
		}
	}
}

func same(x, y Ratio) bool {
	return x.Neg == y.Neg && slices.Equal(x.Num, y.Num) && slices.Equal(x.Den, y.Den)
}

func TestFractionsAreAField(t *testing.T) {
	eachPair(func(x, y Ratio) {
		if !same(Add(x, y), Add(y, x)) || !same(Mul(x, y), Mul(y, x)) {
			t.Error("order", x, y)
		}
		kept := Add(x, Whole(0))
		if !same(Sub(Add(x, y), y), kept) || !same(Add(Sub(x, y), y), kept) {
			t.Error("taken away", x, y)
		}
		if q, ok := Quo(Mul(x, y), y); ok && !same(q, kept) {
			t.Error("divided", x, y, q)
		}
		if Formed(x) && Formed(y) && same(x, y) != (Cmp(x, y) == 0) {
			t.Error("alike", x, y)
		}
	})
	list := append(long(300), fractions()...)
	for i := 2; i < len(list); i++ {
		x, y, z := list[i], list[i-1], list[i-2]
		if !same(Add(Add(x, y), z), Add(x, Add(y, z))) || !same(Mul(Mul(x, y), z), Mul(x, Mul(y, z))) {
			t.Error("order of three", x, y, z)
		}
		if !same(Mul(x, Add(y, z)), Add(Mul(x, y), Mul(x, z))) {
			t.Error("spread", x, y, z)
		}
	}
}

// calls are all the calls that answer fractions, in one form.
func calls() map[string]func(x, y Ratio) Ratio {
	return map[string]func(x, y Ratio) Ratio{
		"Add":   Add,
		"Sub":   Sub,
		"Mul":   Mul,
		"Quo":   func(x, y Ratio) Ratio { q, _ := Quo(x, y); return q },
		"Whole": func(x, y Ratio) Ratio { return Whole(7) },
		"Make":  func(x, y Ratio) Ratio { return Make(5, 7) },
	}
}

// roomy answers a with three limbs of 9 in the room behind it, and all of that.
func roomy(a nat.Nat) (nat.Nat, nat.Nat) {
	whole := append(append(nat.Nat{}, a...), 9, 9, 9)
	return whole[:len(a)], whole
}

// roomyRatio answers x with room behind its lists, and a call that tells whether these are still as they were.
func roomyRatio(x Ratio) (Ratio, func() bool) {
	num, wholeNum := roomy(x.Num)
	den, wholeDen := roomy(x.Den)
	keptNum, keptDen := slices.Clone(wholeNum), slices.Clone(wholeDen)
	untouched := func() bool {
		return slices.Equal(wholeNum, keptNum) && slices.Equal(wholeDen, keptDen)
	}
	return Ratio{Neg: x.Neg, Num: num, Den: den}, untouched
}

// scribble overwrites a list and the room behind it.
func scribble(a nat.Nat) {
	a = a[:cap(a)]
	for i := range a {
		a[i] = 123456789
	}
}

func TestMemory(t *testing.T) {
	list := append(unformed(), Whole(0), Whole(1), Whole(-1), Make(3, 2), Make(-2, 7), Make(math.MinInt64, 3), Make(1<<40, 1<<50+1))
	for name, call := range calls() {
		for _, a := range list {
			for _, b := range list {
				x, xUntouched := roomyRatio(a)
				y, yUntouched := roomyRatio(b)
				first, again := call(x, y), call(x, y)
				den := slices.Clone(first.Den)
				scribble(first.Num)
				if !slices.Equal(first.Den, den) {
					t.Error(name, a, b, "an answer's two lists share memory")
				}
				scribble(first.Den)
				Formed(x)
				Cmp(x, y)
				Sign(x)
				Floor(x)
				Round(x)
				if !xUntouched() || !yUntouched() {
					t.Error(name, a, b, "an argument was touched")
				}
				if !same(again, call(a, b)) {
					t.Error(name, a, b, "answers of two calls share memory")
				}
			}
		}
	}
}

package nat

import (
	"math"
	"math/big"
	"slices"
	"testing"
)

const top = math.MaxUint32

// value is what the document says a list's value is, reckoned by another library.
func value(a Nat) *big.Int {
	sum := new(big.Int)
	for i := len(a) - 1; i >= 0; i-- {
		sum.Lsh(sum, 32)
		sum.Add(sum, new(big.Int).SetUint64(uint64(a[i])))
	}
	return sum
}

func trimmed(a Nat) bool {
	return len(a) == 0 || a[len(a)-1] != 0
}

// expect fails unless got is trimmed and has the value want.
func expect(t *testing.T, call string, got Nat, want *big.Int, args ...Nat) {
	t.Helper()
	if !trimmed(got) || value(got).Cmp(want) != 0 {
		t.Errorf("%s%v: %v, want %v", call, args, got, want)
	}
}

// edges are the lists at which carries, borrows and guesses go wrong, and lists that aren't trimmed.
func edges() []Nat {
	limbs := []uint32{0, 1, 2, 3, 1<<31 - 1, 1 << 31, 1<<31 + 1, top - 1, top}
	list := []Nat{nil, {}, {0, 0}, {0, 0, 0, 0}, {7, 0}, {0, 5, 0, 0}, {top, top, 0}}
	for _, a := range limbs {
		list = append(list, Nat{a})
		for _, b := range limbs {
			list = append(list, Nat{a, b})
		}
	}
	for _, a := range []uint32{0, 1, top} {
		for _, b := range []uint32{0, 1, top} {
			for _, c := range []uint32{1, 1<<31 - 1, 1 << 31, top} {
				list = append(list, Nat{a, b, c}, Nat{b, a, b, c}, Nat{a, b, a, b, c}, Nat{top, b, c, a, 0})
			}
		}
	}
	return list
}

// mixed are lists of all lengths up to 12, made by a fixed rule; a third of the limbs are extreme.
func mixed(count int) []Nat {
	state := uint64(1)
	next := func(below uint64) uint64 {
		state = state*6364136223846793005 + 1442695040888963407
		return state >> 33 % below
	}
	list := make([]Nat, count)
	for i := range list {
		a := make(Nat, next(13))
		for k := range a {
			switch next(6) {
			case 0:
				a[k] = 0
			case 1:
				a[k] = top
			default:
				a[k] = uint32(next(1<<31)<<1 | next(2))
			}
		}
		list[i] = a
	}
	return list
}

func eachPair(check func(a, b Nat)) {
	list := edges()
	for _, a := range list {
		for _, b := range list {
			check(a, b)
		}
	}
	list = mixed(4000)
	for i, a := range list[1:] {
		check(a, list[i])
		check(a, a)
	}
}

func TestOf(t *testing.T) {
	for _, n := range []uint64{0, 1, top, 1 << 32, 1<<32 + 1, 1 << 63, math.MaxUint64} {
		expect(t, "Of", Of(n), new(big.Int).SetUint64(n))
	}
	if a := Of(1 << 32); !slices.Equal(a, Nat{0, 1}) {
		t.Error(a)
	}
	if a := Of(0); len(a) != 0 {
		t.Error(a)
	}
}

func TestTrim(t *testing.T) {
	for _, a := range append(edges(), mixed(500)...) {
		expect(t, "Trim", Trim(a), value(a), a)
	}
	if a := Trim(Nat{0, 3, 0, 0}); !slices.Equal(a, Nat{0, 3}) {
		t.Error(a)
	}
}

func TestCmp(t *testing.T) {
	eachPair(func(a, b Nat) {
		if got, want := Cmp(a, b), value(a).Cmp(value(b)); got != want {
			t.Errorf("Cmp(%v, %v): %d, want %d", a, b, got, want)
		}
	})
}

func TestAddSubMul(t *testing.T) {
	eachPair(func(a, b Nat) {
		x, y := value(a), value(b)
		expect(t, "Add", Add(a, b), new(big.Int).Add(x, y), a, b)
		expect(t, "Mul", Mul(a, b), new(big.Int).Mul(x, y), a, b)
		difference := new(big.Int).Sub(x, y)
		if difference.Sign() < 0 {
			difference.SetInt64(0)
		}
		expect(t, "Sub", Sub(a, b), difference, a, b)
	})
}

func TestCarriesOverSeveralLimbs(t *testing.T) {
	full := Nat{top, top, top, top}
	next := Nat{0, 0, 0, 0, 1}
	if a := Add(full, Of(1)); !slices.Equal(a, next) {
		t.Error(a)
	}
	if a := Sub(next, Of(1)); !slices.Equal(a, full) {
		t.Error(a)
	}
	if a := Mul(full, full); !slices.Equal(a, Nat{1, 0, 0, 0, top - 1, top, top, top}) {
		t.Error(a)
	}
}

func TestDiv(t *testing.T) {
	eachPair(func(a, b Nat) {
		quotient, left := new(big.Int), new(big.Int)
		if y := value(b); y.Sign() != 0 {
			quotient.QuoRem(value(a), y, left)
		}
		q, r := Div(a, b)
		expect(t, "Div", q, quotient, a, b)
		expect(t, "Div's rest", r, left, a, b)
	})
}

func TestDivByZero(t *testing.T) {
	for _, zero := range []Nat{nil, {}, {0}, {0, 0, 0}} {
		for _, a := range []Nat{nil, {0}, {7}, {1, 2, 3}} {
			if q, r := Div(a, zero); len(q) != 0 || len(r) != 0 {
				t.Error(a, zero, q, r)
			}
		}
	}
}

func TestDivWhereTheGuessIsTooGreat(t *testing.T) {
	cases := []struct{ a, b, quotient, left Nat }{
		{Nat{0, 0, 1 << 31, 1<<31 - 1}, Nat{1, 0, 1 << 31}, Nat{top - 1}, Nat{2, top, 1<<31 - 1}},
		{Nat{3, 0, 1 << 31}, Nat{1, 0, 1 << 29}, Nat{3}, Nat{0, 0, 1 << 29}},
		{Nat{0, top - 1, 1 << 31}, Nat{top, 1 << 31}, Nat{top, 0}, Nat{top, 1<<31 - 1}},
	}
	for _, c := range cases {
		q, r := Div(c.a, c.b)
		if Cmp(q, c.quotient) != 0 || Cmp(r, c.left) != 0 {
			t.Error(c, q, r)
		}
	}
}

func TestDivExample(t *testing.T) {
	q, r := Div(Nat{0, 0, 1}, Of(3))
	if n, ok := Small(q); n != 6148914691236517205 || !ok || !slices.Equal(r, Nat{1}) {
		t.Error(q, r)
	}
}

func TestGcd(t *testing.T) {
	eachPair(func(a, b Nat) {
		expect(t, "Gcd", Gcd(a, b), new(big.Int).GCD(nil, nil, value(a), value(b)), a, b)
	})
	list := mixed(600)
	for i := 2; i < len(list); i++ {
		a, b := Mul(list[i], list[i-1]), Mul(list[i], list[i-2])
		expect(t, "Gcd", Gcd(a, b), new(big.Int).GCD(nil, nil, value(a), value(b)), a, b)
	}
	if g := Gcd(Of(12), Of(18)); !slices.Equal(g, Nat{6}) {
		t.Error(g)
	}
}

func TestGcdOfZero(t *testing.T) {
	for _, b := range []Nat{nil, {0, 0}, {5, 0}, {1, 2, 3, 0}} {
		for _, zero := range []Nat{nil, {}, {0, 0, 0}} {
			if x, y := Gcd(zero, b), Gcd(b, zero); !slices.Equal(x, Trim(b)) || !slices.Equal(y, Trim(b)) {
				t.Error(zero, b, x, y)
			}
		}
	}
}

func TestSmall(t *testing.T) {
	for _, a := range append(edges(), mixed(500)...) {
		want := value(a)
		n, ok := Small(a)
		if ok != want.IsUint64() || ok && n != want.Uint64() || !ok && n != 0 {
			t.Error(a, n, ok)
		}
	}
	if n, ok := Small(Nat{top, top, 0, 0}); n != math.MaxUint64 || !ok {
		t.Error(n, ok)
	}
	if n, ok := Small(Nat{0, 0, 1}); n != 0 || ok {
		t.Error(n, ok)
	}
}

func TestText(t *testing.T) {
	list := append(edges(), mixed(500)...)
	for power, ten := Of(1), Of(10); len(power) < 9; power = Mul(power, ten) {
		list = append(list, power, Sub(power, Of(1)), Add(power, Of(1)))
	}
	for _, a := range list {
		if got, want := Text(a), value(a).String(); got != want {
			t.Errorf("Text(%v): %q, want %q", a, got, want)
		}
	}
	if Text(nil) != "0" || Text(Nat{0, 0}) != "0" || Text(Nat{1, 1, 0}) != "4294967297" {
		t.Error(Text(nil), Text(Nat{0, 0}), Text(Nat{1, 1, 0}))
	}
}

func TestWhatFollows(t *testing.T) {
	eachPair(func(a, b Nat) {
		if !slices.Equal(Add(a, b), Add(b, a)) || !slices.Equal(Mul(a, b), Mul(b, a)) {
			t.Error("order", a, b)
		}
		if Cmp(Sub(Add(a, b), b), a) != 0 {
			t.Error("added and taken away", a, b)
		}
		if Cmp(b, nil) == 0 {
			return
		}
		q, r := Div(a, b)
		if Cmp(Add(Mul(q, b), r), a) != 0 || Cmp(r, b) >= 0 {
			t.Error("divided", a, b, q, r)
		}
	})
	list := mixed(300)
	for i := 2; i < len(list); i++ {
		a, b, c := list[i], list[i-1], list[i-2]
		if Cmp(Add(Add(a, b), c), Add(a, Add(b, c))) != 0 || Cmp(Mul(Mul(a, b), c), Mul(a, Mul(b, c))) != 0 {
			t.Error("order of three", a, b, c)
		}
	}
}

// calls are all the calls that answer lists, in one form.
func calls() map[string]func(a, b Nat) []Nat {
	one := func(f func(a, b Nat) Nat) func(a, b Nat) []Nat {
		return func(a, b Nat) []Nat { return []Nat{f(a, b)} }
	}
	return map[string]func(a, b Nat) []Nat{
		"Trim": func(a, b Nat) []Nat { return []Nat{Trim(a), Trim(b)} },
		"Add":  one(Add),
		"Sub":  one(Sub),
		"Mul":  one(Mul),
		"Gcd":  one(Gcd),
		"Div":  func(a, b Nat) []Nat { q, r := Div(a, b); return []Nat{q, r} },
	}
}

// roomy answers a with three limbs of 9 in the room behind it, and all of that.
func roomy(a Nat) (Nat, Nat) {
	whole := append(append(Nat{}, a...), 9, 9, 9)
	return whole[:len(a)], whole
}

// scribble overwrites an answer and the room behind it.
func scribble(a Nat) {
	a = a[:cap(a)]
	for i := range a {
		a[i] = 123456789
	}
}

func TestArgumentsAreLeftAsTheyAre(t *testing.T) {
	list := []Nat{nil, {0}, {1}, {6, 0}, {1, 0, 0}, {0, 6, 0}, {top, top}, {3, 2, 1}, {1, 2, 3, 4, 0}, {5, 5, 5, 5, 5, 5}}
	for name, call := range calls() {
		for _, a := range list {
			for _, b := range list {
				x, wholeX := roomy(a)
				y, wholeY := roomy(b)
				keptX, keptY := slices.Clone(wholeX), slices.Clone(wholeY)
				for _, answer := range call(x, y) {
					scribble(answer)
				}
				Small(x)
				Text(x)
				Cmp(x, y)
				if !slices.Equal(wholeX, keptX) || !slices.Equal(wholeY, keptY) {
					t.Error(name, a, b, wholeX, wholeY)
				}
			}
		}
	}
}

func TestAnswersShareNoMemory(t *testing.T) {
	a, b := Nat{7, 8, 9, 10, 11}, Nat{3, 4}
	for name, call := range calls() {
		first, again := call(a, b), call(a, b)
		want := make([]Nat, len(again))
		for i := range again {
			want[i] = slices.Clone(again[i])
		}
		for i := range first {
			scribble(first[i])
			for k := i + 1; k < len(first); k++ {
				if !slices.Equal(first[k], want[k]) {
					t.Error(name, "answers share memory")
				}
			}
		}
		for i := range again {
			if !slices.Equal(again[i], want[i]) {
				t.Error(name, "answers of two calls share memory")
			}
		}
	}
}

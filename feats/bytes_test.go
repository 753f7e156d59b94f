package feats

import (
	"bytes"
	"encoding/binary"
	"math"
	"math/rand"
	"slices"
	"testing"

	"foundry/api"
)

// table is what the chapter says of the bytes, formed or not.
func table(l []api.Feature, swaps []api.Swap) []byte {
	var b []byte
	put := func(numbers ...int) {
		for _, n := range numbers {
			b = binary.BigEndian.AppendUint16(b, uint16(n))
		}
	}
	put(len(l))
	for _, x := range l {
		b = append(b, x.Tag...)
		put(len(x.Looks))
		put(x.Looks...)
	}
	put(len(swaps))
	for _, x := range swaps {
		put(len(x.Conds))
		for _, c := range x.Conds {
			put(c.Axis, c.Least, c.Most)
		}
		put(x.Feature, len(x.Looks))
		put(x.Looks...)
	}
	return b
}

// isTable answers whether b is the bytes of features and swaps that are formed for so many lookups and axes, and of which.
func isTable(b []byte, looks, axes int) ([]api.Feature, []api.Swap, bool) {
	whole := true
	cut := func(n int) []byte {
		if len(b) < n {
			whole, b = false, nil
			return make([]byte, n)
		}
		x := b[:n]
		b = b[n:]
		return x
	}
	next := func() int { return int(binary.BigEndian.Uint16(cut(2))) }
	numbers := func() []int {
		var l []int
		for n := next(); n > 0 && whole; n-- {
			l = append(l, next())
		}
		return l
	}
	var l []api.Feature
	for n := next(); n > 0 && whole; n-- {
		tag := string(cut(4))
		l = append(l, feature(tag, numbers()...))
	}
	var swaps []api.Swap
	for n := next(); n > 0 && whole; n-- {
		var conds []api.Cond
		for n := next(); n > 0 && whole; n-- {
			axis, least := next(), int(int16(next()))
			conds = append(conds, cond(axis, least, int(int16(next()))))
		}
		of := next()
		swaps = append(swaps, where(swap(of, numbers()...), conds...))
	}
	return l, swaps, whole && len(b) == 0 && formed(l, swaps, looks, axes) && looks <= 65536 && axes <= 65536
}

// expectTable asks Write, and Read of what it answers, or, if it answers none, of what their bytes would be.
func expectTable(t *testing.T, name string, l []api.Feature, swaps []api.Swap, looks, axes int, want bool) {
	t.Helper()
	b, e := Write(l, swaps, looks, axes)
	if !want {
		if e != api.ErrForm || len(b) != 0 {
			t.Errorf("%s, %d lookups, %d axes: Write: %x, error %d", name, looks, axes, b, e)
		}
		if _, _, is := isTable(table(l, swaps), looks, axes); !is {
			expectBad(t, name, table(l, swaps), looks, axes)
		}
		return
	}
	if e != api.OK || !bytes.Equal(b, table(l, swaps)) {
		t.Errorf("%s, %d lookups, %d axes: Write: %x, error %d", name, looks, axes, b, e)
	}
	expectRead(t, name, b, looks, axes, l, swaps)
}

func expectRead(t *testing.T, name string, b []byte, looks, axes int, l []api.Feature, swaps []api.Swap) {
	t.Helper()
	m, others, e := Read(b, looks, axes)
	if e != api.OK || !sameFeatures(l, m) || !sameSwaps(swaps, others) {
		t.Errorf("%s, %d lookups, %d axes: Read: %v, %v, error %d", name, looks, axes, m, others, e)
	}
}

func expectBad(t *testing.T, name string, b []byte, looks, axes int) {
	t.Helper()
	if l, swaps, e := Read(b, looks, axes); e != api.ErrBad || len(l) != 0 || len(swaps) != 0 {
		t.Errorf("%s, %d lookups, %d axes: Read of %d bytes: %v, %v, error %d", name, looks, axes, len(b), l, swaps, e)
	}
}

// TestWriteOfBytes is P22.2, byte by byte.
func TestWriteOfBytes(t *testing.T) {
	l := []api.Feature{feature("liga", 2, 65535), feature(" !~A")}
	swaps := []api.Swap{
		where(swap(1, 0, 258, 3), cond(65535, -16384, -2), cond(0, -1, 16384)),
		swap(0),
	}
	b, e := Write(l, swaps, 65536, 65536)
	want := "\x00\x02" + "liga" + "\x00\x02" + "\x00\x02\xff\xff" + " !~A" + "\x00\x00" +
		"\x00\x02" +
		"\x00\x02" + "\xff\xff\xc0\x00\xff\xfe" + "\x00\x00\xff\xff\x40\x00" + "\x00\x01" + "\x00\x03" + "\x00\x00\x01\x02\x00\x03" +
		"\x00\x00" + "\x00\x00" + "\x00\x00"
	if e != api.OK || string(b) != want {
		t.Errorf("%x, error %d", b, e)
	}
	expectRead(t, "these", []byte(want), 65536, 65536, l, swaps)
	if b, e := Write(nil, nil, 0, 0); e != api.OK || string(b) != "\x00\x00\x00\x00" {
		t.Errorf("nothing: %x, error %d", b, e)
	}
	expectRead(t, "nothing", make([]byte, 4), 0, 0, nil, nil)
	expectRead(t, "nothing, of less than none", make([]byte, 4), math.MinInt, -1, nil, nil)
}

// TestMost: as many of each as are formed.
func TestMost(t *testing.T) {
	looks := []int{0, 65535, 2, 3, 4, 5, 6, 7, 8, 9}
	conds := []api.Cond{cond(0, -16384, 16384), cond(65535, 0, 0), cond(2, 16384, 16384), cond(3, -16384, -16384)}
	l := slices.Repeat([]api.Feature{feature("liga", looks...)}, 10)
	swaps := slices.Repeat([]api.Swap{where(swap(9, looks...), conds...)}, 6)
	expectTable(t, "all", l, swaps, 65536, 65536, true)
	for _, n := range []int{65535, 65537, 1 << 20, math.MaxInt, -1, math.MinInt} {
		expectTable(t, "lookups", l, swaps, n, 65536, false)
		expectTable(t, "axes", l, swaps, 65536, n, false)
		expectBad(t, "lookups", table(l, swaps), n, 65536)
		expectBad(t, "axes", table(l, swaps), 65536, n)
	}
	// Formed for more, but not written, nor read.
	expectBad(t, "nothing, of too many lookups", make([]byte, 4), 65537, 0)
	expectBad(t, "nothing, of too many axes", make([]byte, 4), 0, 65537)
}

func TestReadOfOthers(t *testing.T) {
	b := table(family(), corners())
	for n := range b {
		expectBad(t, "too short", b[:n], 6, 2)
	}
	for _, more := range [][]byte{{0}, {0, 0}, {255}, {0, 0, 0, 0}, []byte("liga\x00\x00"), make([]byte, 1<<20), b} {
		expectBad(t, "too long", slices.Concat(b, more), 6, 2)
	}
	expectBad(t, "no bytes", nil, 6, 2)
	expectBad(t, "too few lookups", b, 5, 2)
	expectBad(t, "too few axes", b, 6, 1)
	expectRead(t, "more of both", b, 7, 3, family(), corners())
	many := func(n int) []int { return make([]int, n) }
	// Written rightly, but not formed.
	for n, most := range map[int]bool{10: true, 11: false, 12: false, 255: false, 65535: false} {
		l := slices.Repeat([]api.Feature{feature("liga", 1)}, n)
		if most {
			expectRead(t, "features", table(l, nil), 6, 2, l, nil)
			expectRead(t, "lookups", table(withFeature(feature("liga", many(n)...)), nil), 6, 2, withFeature(feature("liga", many(n)...)), nil)
			continue
		}
		expectBad(t, "features", table(l, nil), 6, 2)
		expectBad(t, "features, and swaps", table(l, []api.Swap{swap(0)}), 6, 2)
		expectBad(t, "lookups", table(withFeature(feature("liga", many(n)...)), corners()), 6, 2)
		expectBad(t, "a swap's lookups", table(family(), withSwap(swap(0, many(n)...))), 6, 2)
		expectBad(t, "conds", table(family(), withSwap(where(swap(0), make([]api.Cond, n)...))), 6, 2)
		expectBad(t, "swaps", table(family(), make([]api.Swap, n)), 6, 2)
	}
	expectBad(t, "7 swaps", table(family(), make([]api.Swap, 7)), 6, 2)
	expectBad(t, "5 conds", table(family(), withSwap(where(swap(0), make([]api.Cond, 5)...))), 6, 2)
	expectBad(t, "just 65536 in all", slices.Concat([]byte("\x00\x00\xff\xff"), make([]byte, 1<<20)), 6, 2)
	expectBad(t, "zeros", make([]byte, 1<<21), 6, 2)
	expectBad(t, "ones", bytes.Repeat([]byte{1}, 1<<21), 65536, 65536)
	expectBad(t, "blanks", bytes.Repeat([]byte{0, 32}, 1<<20), 65536, 65536)
	expectBad(t, "all bits", bytes.Repeat([]byte{255}, 1<<21), 65536, 65536)
}

// TestReadOfOneMore: a list that says that it has more than the most there may be is no formed ones', though it has just the most, and all behind it is right.
func TestReadOfOneMore(t *testing.T) {
	looks := make([]int, 10)
	features, lookups := slices.Repeat([]api.Feature{feature("liga")}, 10), []api.Feature{feature("liga", looks...)}
	swaps := func(n int, x api.Swap) []api.Swap { return slices.Repeat([]api.Swap{x}, n) }
	full, conds := swap(0, looks...), where(swap(0), make([]api.Cond, 4)...)
	for _, x := range []struct {
		name  string
		l     []api.Feature
		swaps []api.Swap
		at    int // where it is said how many there are, which is most
		most  int
	}{
		{"features", features, nil, 0, 10},
		{"features, and a swap", features, swaps(1, swap(0)), 0, 10},
		{"lookups", lookups, nil, 6, 10},
		{"swaps", lookups[:1], swaps(6, swap(0)), 28, 6},
		{"conds", lookups[:1], swaps(1, conds), 30, 4},
		{"a swap's lookups", []api.Feature{feature("liga")}, swaps(2, full), 14, 10},
	} {
		b := table(x.l, x.swaps)
		if int(b[x.at])*256+int(b[x.at+1]) != x.most {
			t.Error("the test itself", x.name)
		}
		expectRead(t, x.name, b, 1, 1, x.l, x.swaps)
		for _, claim := range []int{1, 2, 3, 245, 256, 65535} {
			binary.BigEndian.PutUint16(b[x.at:], uint16(min(x.most+claim, 65535)))
			expectBad(t, x.name, b, 1, 1)
			expectBad(t, x.name, slices.Concat(b, make([]byte, 2*claim)), 1, 1)
		}
	}
}

// TestReadOfClaims: lists that say how many they are and have fewer, or more, whatever stands behind, are no formed ones'.
func TestReadOfClaims(t *testing.T) {
	for claim := range 400 {
		for have := range 30 {
			b := []byte{0, byte(have), byte(claim >> 8), byte(claim), 0, 1, 'l', 'i', 'g', 'a'}
			for i := range have {
				b = append(b, 0, byte(i))
			}
			for _, x := range [][]byte{b, b[4:], b[2:], b[:4]} {
				l, swaps, is := isTable(x, 300, 300)
				if !is {
					expectBad(t, "claims", x, 300, 300)
					continue
				}
				expectRead(t, "claims", x, 300, 300, l, swaps)
			}
		}
	}
}

// TestReadOfTurned: bytes are read just if they are those of formed ones, and as these.
func TestReadOfTurned(t *testing.T) {
	r := rand.New(rand.NewSource(1))
	others := 0
	check := func(b []byte) {
		t.Helper()
		l, swaps, is := isTable(b, 9, 3)
		if !is {
			expectBad(t, "turned", b, 9, 3)
			return
		}
		others++
		expectRead(t, "turned", b, 9, 3, l, swaps)
		if back, e := Write(l, swaps, 9, 3); e != api.OK || !bytes.Equal(back, b) {
			t.Errorf("%x is written as %x, error %d", b, back, e)
		}
	}
	b := table(family(), corners())
	turned := slices.Clone(b)
	for i := range b {
		for n := range 256 {
			turned[i] = byte(n)
			check(turned)
		}
		turned[i] = b[i]
	}
	for range 30000 {
		copy(turned, b)
		for range 1 + r.Intn(4) {
			turned[r.Intn(len(b))] = byte(r.Intn(16))
		}
		check(turned)
		check(turned[:r.Intn(len(b)+1)])
	}
	if others < 1000 {
		t.Error("others", others)
	}
}

// TestMemoryOfBytes: bytes that are handed in are left as they are, their spare room too, and what is answered is new.
func TestMemoryOfBytes(t *testing.T) {
	b, _ := Write(family(), corners(), 6, 2)
	again, _ := Write(family(), corners(), 6, 2)
	b[3] ^= 255
	if !bytes.Equal(again, table(family(), corners())) {
		t.Error("two answers share bytes")
	}
	room := append(slices.Clone(again), 1, 2, 3)
	l, swaps, _ := Read(room[:len(again)], 6, 2)
	m, others, _ := Read(room[:len(again)], 6, 2)
	if !bytes.Equal(room, append(again, 1, 2, 3)) {
		t.Error("what was handed in has changed", room)
	}
	for i := range l {
		spoil(l[i].Looks)
		l[i].Tag = "gone"
		if !sameFeatures(l[i+1:], family()[i+1:]) || !sameFeatures(m, family()) {
			t.Error("features share lookups", i)
		}
	}
	for i := range swaps {
		spoil(swaps[i].Looks)
		clear(swaps[i].Conds[:cap(swaps[i].Conds)])
		if !sameSwaps(swaps[i+1:], corners()[i+1:]) || !sameSwaps(others, corners()) {
			t.Error("swaps share lists", i)
		}
	}
	clear(room)
	if !sameFeatures(m, family()) || !sameSwaps(others, corners()) {
		t.Error("the bytes are kept")
	}
}

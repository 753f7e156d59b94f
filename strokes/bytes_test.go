package strokes

import (
	"bytes"
	"encoding/binary"
	"math/rand"
	"slices"
	"testing"

	"foundry/api"
)

// table is what the chapter says of the drawings' bytes, formed or not.
func table(l [][]api.Step) []byte {
	b := binary.BigEndian.AppendUint16(nil, uint16(len(l)))
	for _, d := range l {
		b = binary.BigEndian.AppendUint16(b, uint16(len(d)))
		for _, x := range d {
			b = append(b, byte(x.Do))
			for _, a := range x.Args {
				b = binary.BigEndian.AppendUint16(b, uint16(a.Base))
				b = binary.BigEndian.AppendUint16(b, uint16(a.Row))
			}
		}
	}
	return b
}

// isTable answers whether b is the bytes of drawings that are formed for s, and of which.
func isTable(b []byte, s api.Store) ([][]api.Step, bool) {
	whole := true
	next := func(n int) int {
		if len(b) < n {
			whole, b = false, nil
			return 0
		}
		v := 0
		for _, x := range b[:n] {
			v = v*256 + int(x)
		}
		b = b[n:]
		return v
	}
	many := map[int]int{1: 2, 2: 2, 3: 6, 4: 1}
	var l [][]api.Step
	for n := next(2); n > 0 && whole; n-- {
		var d []api.Step
		for n := next(2); n > 0 && whole; n-- {
			x := api.Step{Do: next(1)}
			for range many[x.Do] {
				base := int(int16(next(2)))
				x.Args = append(x.Args, api.Slot{Base: base, Row: int(int16(next(2)))})
			}
			d = append(d, x)
		}
		l = append(l, d)
	}
	return l, whole && len(b) == 0 && formed(l, s)
}

// expectTable asks Write, and Read of what it answers.
func expectTable(t *testing.T, name string, l [][]api.Step, s api.Store, want bool) {
	t.Helper()
	b, e := Write(l, s)
	if !want {
		if e != api.ErrForm || len(b) != 0 {
			t.Errorf("%s: Write: %d bytes, error %d", name, len(b), e)
		}
		return
	}
	if e != api.OK || !bytes.Equal(b, table(l)) {
		t.Errorf("%s: Write: %x, error %d", name, b, e)
	}
	if m, e := Read(b, s); e != api.OK || !sameDrawings(l, m) {
		t.Errorf("%s: Read: %v, error %d", name, m, e)
	}
}

func expectBad(t *testing.T, name string, b []byte, s api.Store) {
	t.Helper()
	if l, e := Read(b, s); e != api.ErrBad || len(l) != 0 {
		t.Errorf("%s: %d bytes: %v, error %d", name, len(b), l, e)
	}
}

// TestWriteOfBytes is P18.3, byte by byte.
func TestWriteOfBytes(t *testing.T) {
	l := [][]api.Step{
		{goes(1, -2), changing(line(-32768, 32767), 0, 399), draws(2)},
		{},
		{curve(1, 2, 3, 4, 5, 6)},
	}
	b, e := Write(l, rows(400))
	want := "\x00\x03" +
		"\x00\x03" + "\x01\x00\x01\xff\xff\xff\xfe\xff\xff" + "\x02\x80\x00\x01\x8f\x7f\xff\xff\xff" + "\x04\x00\x02\xff\xff" +
		"\x00\x00" +
		"\x00\x01" + "\x03\x00\x01\xff\xff\x00\x02\xff\xff\x00\x03\xff\xff\x00\x04\xff\xff\x00\x05\xff\xff\x00\x06\xff\xff"
	if e != api.OK || string(b) != want {
		t.Errorf("%x, error %d", b, e)
	}
	if b, e := Write(nil, api.Store{}); e != api.OK || string(b) != "\x00\x00" {
		t.Errorf("no drawings: %x, error %d", b, e)
	}
	if l, e := Read([]byte("\x00\x00"), api.Store{}); e != api.OK || len(l) != 0 {
		t.Error("no drawings", l, e)
	}
	if l, e := Read([]byte("\x00\x02\x00\x00\x00\x00"), api.Store{}); e != api.OK || len(l) != 2 || len(l[0])+len(l[1]) != 0 {
		t.Error("two of nothing", l, e)
	}
}

func TestReadOfOthers(t *testing.T) {
	s := oneAxis()
	b := table(family())
	for n := range b {
		expectBad(t, "too short", b[:n], s)
	}
	for _, more := range [][]byte{{0}, {0, 0}, {255}, []byte("\x01\x00\x01\xff\xff\x00\x01\xff\xff"), make([]byte, 1<<20), b} {
		expectBad(t, "too long", slices.Concat(b, more), s)
	}
	expectBad(t, "nothing", nil, s)
	expectBad(t, "other store", b, api.Store{})
	expectBad(t, "too few rows", b, rows(2))
	if l, e := Read(b, rows(3)); e != api.OK || !sameDrawings(l, family()) {
		t.Error("another store with these rows", l, e)
	}
	// Written rightly, but not formed.
	for name, l := range map[string][][]api.Step{
		"21 drawings": make([][]api.Step, 21), "65535 drawings": make([][]api.Step, 65535),
		"61 steps": with(slices.Repeat([]api.Step{goes(1, 1)}, 61)...), "65535 steps": with(slices.Repeat([]api.Step{goes(1, 1)}, 65535)...),
		"no such drawing": with(draws(5)), "drawing below 0": with(draws(-1)), "a drawing that changes": with(changing(draws(0), 0, 0)),
		"no row": with(changing(goes(1, 1), 1, 3)), "below None": with(changing(goes(1, 1), 0, -2)),
		"do 0": with(api.Step{Do: 0}), "do 5": with(api.Step{Do: 5}), "do 255": with(api.Step{Do: 255}), "do 0 of two": with(step(0, 1, 2)),
	} {
		expectBad(t, name, table(l), s)
	}
	expectBad(t, "row beyond MaxRows", table(with(changing(goes(1, 1), 0, 400))), rows(500))
	expectBad(t, "zeros", make([]byte, 1<<21), s)
	expectBad(t, "ones", bytes.Repeat([]byte{1}, 1<<21), s)
	expectBad(t, "all bits", bytes.Repeat([]byte{255}, 1<<21), s)
}

// TestReadOfTurned: bytes are read just if they are those of formed drawings, and as these.
func TestReadOfTurned(t *testing.T) {
	r := rand.New(rand.NewSource(1))
	s, others := oneAxis(), 0
	check := func(b []byte) {
		t.Helper()
		want, right := isTable(b, s)
		if !right {
			expectBad(t, "turned", b, s)
			return
		}
		others++
		l, e := Read(b, s)
		if e != api.OK || !sameDrawings(l, want) {
			t.Errorf("%x: %v, error %d", b, l, e)
		}
		if back, e := Write(l, s); e != api.OK || !bytes.Equal(back, b) {
			t.Errorf("%x is written as %x, error %d", b, back, e)
		}
	}
	b := table(family())
	turned := slices.Clone(b)
	for i := range b {
		for n := range 256 {
			turned[i] = byte(n)
			check(turned)
		}
		turned[i] = b[i]
	}
	for range 20000 {
		copy(turned, b)
		for range 1 + r.Intn(4) {
			turned[r.Intn(len(b))] = byte(r.Intn(256))
		}
		check(turned)
		check(turned[:r.Intn(len(b)+1)])
	}
	if others < 1000 {
		t.Error("others", others)
	}
}

// TestMemoryOfBytes: bytes that are handed in are left as they are, their spare room too, and what is answered is new.
func TestMemoryOfBytes(t *testing.T) {
	s := oneAxis()
	b, _ := Write(family(), s)
	again, _ := Write(family(), s)
	b[3] ^= 255
	if !bytes.Equal(again, table(family())) {
		t.Error("two answers share bytes")
	}
	room := append(slices.Clone(again), 1, 2, 3)
	m, _ := Read(room[:len(again)], s)
	n, _ := Read(room[:len(again)], s)
	if !bytes.Equal(room, append(again, 1, 2, 3)) {
		t.Error("what was handed in has changed", room)
	}
	for i := range m {
		for j := range m[i] {
			_ = append(m[i][j].Args, api.Slot{Base: 99})
			m[i][j].Do, m[i][j].Args[0].Base = 9, 77
		}
		_ = append(m[i], api.Step{Do: 99})
	}
	clear(room)
	if !sameDrawings(n, family()) {
		t.Error("two answers share steps, or one its bytes", n)
	}
	for i := range m {
		for j := range m[i] {
			if m[i][j].Do != 9 || m[i][j].Args[0].Base != 77 {
				t.Error("lists of one answer share memory", m[i][j])
			}
		}
	}
}

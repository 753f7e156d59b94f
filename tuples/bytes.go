package tuples

import (
	"bytes"

	"foundry/api"
	"foundry/infer"
	"foundry/octets"
	"foundry/packed"
)

const (
	fieldBytes = 2 // how many tuples there are; a number of a tent
	tentBytes  = 6 // a Start, a Peak, and an End
)

// Write answers the bytes of l; ErrForm, if they aren't formed for o and so many axes.
func Write(o api.Outline, l []api.Tuple, axes int) ([]byte, api.Errno) {
	if !Formed(o, l, axes) {
		return nil, api.ErrForm
	}
	page := &octets.Page{}
	page.Put16(len(l))
	for _, t := range l {
		if e := putTuple(page, t); e != api.OK {
			return nil, e
		}
	}
	return page.All()
}

// putTuple puts t's region, its points and their changes.
func putTuple(page *octets.Page, t api.Tuple) api.Errno {
	for _, tent := range t.Region {
		page.Put16(tent.Start)
		page.Put16(tent.Peak)
		page.Put16(tent.End)
	}
	// One of All has no Points, and none are packed as all.
	if e := putPacked(page, packed.Points, t.Points); e != api.OK {
		return e
	}
	if e := putPacked(page, packed.Changes, t.DX); e != api.OK {
		return e
	}
	return putPacked(page, packed.Changes, t.DY)
}

// putPacked puts the numbers, packed in this way.
func putPacked(page *octets.Page, pack func(l []int) ([]byte, api.Errno), l []int) api.Errno {
	b, e := pack(l)
	if e != api.OK {
		return e
	}
	page.PutBytes(b)
	return api.OK
}

// Read answers the tuples whose bytes b is; ErrBad, if b isn't those of tuples that are formed for o and so many axes.
func Read(b []byte, o api.Outline, axes int) ([]api.Tuple, api.Errno) {
	n, _ := octets.U16(b, 0)
	// Write asks this too; here it keeps small what is read.
	if !Formed(o, nil, axes) || n > api.MaxTuples {
		return nil, api.ErrBad
	}
	s := &source{bytes: b, at: fieldBytes}
	var l []api.Tuple
	for range n {
		t, right := s.tuple(axes, infer.Count(o))
		if !right {
			return nil, api.ErrBad
		}
		l = append(l, t)
	}
	// Tuples have one writing only: bytes that are too many, or tell them in another way, show here.
	again, e := Write(o, l, axes)
	if e != api.OK || !bytes.Equal(again, b) {
		return nil, api.ErrBad
	}
	return l, api.OK
}

// source gives the parts of bytes one by one.
type source struct {
	bytes []byte
	at    int // never beyond the last byte, since a tuple is taken only of bytes that are there
}

// tuple answers the next tuple, of an outline with count points or parts; false, if none begins here.
func (s *source) tuple(axes, count int) (api.Tuple, bool) {
	var t api.Tuple
	if s.at+axes*tentBytes > len(s.bytes) {
		return t, false
	}
	for range axes {
		t.Region = append(t.Region, s.tent())
	}
	points, used, e := packed.ReadPoints(s.bytes[s.at:])
	if e != api.OK {
		return t, false
	}
	s.at += used
	t.Points, t.All = points, len(points) == 0
	if !t.All {
		count = len(points)
	}
	var right bool
	if t.DX, right = s.changes(count); !right {
		return t, false
	}
	t.DY, right = s.changes(count)
	return t, right
}

// tent answers the next tent, whose bytes are there.
func (s *source) tent() api.Tent {
	var numbers [tentBytes / fieldBytes]int
	for i := range numbers {
		numbers[i], _ = octets.I16(s.bytes, s.at)
		s.at += fieldBytes
	}
	return api.Tent{Start: numbers[0], Peak: numbers[1], End: numbers[2]}
}

// changes answers the next n changes; false, if they don't begin here.
func (s *source) changes(n int) ([]int, bool) {
	l, used, e := packed.ReadChanges(s.bytes[s.at:], n)
	s.at += used
	return l, e == api.OK
}

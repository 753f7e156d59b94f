package glyphs

import (
	"foundry/api"
	"foundry/octets"
	"foundry/outline"
	"foundry/tuples"
)

const (
	fieldBytes  = 2 // how many glyphs there are; an Advance's Base, or its Row
	lengthBytes = 4 // how many bytes an outline has, or tuples have
	markBytes   = 1
)

// Write answers the bytes of l; ErrForm, if they aren't formed for s and so many axes; the first error of layer 12; ErrLong, if there are more than MaxBytes bytes.
func Write(l []api.Glyph, s api.Store, axes int) ([]byte, api.Errno) {
	if !Formed(l, s, axes) {
		return nil, api.ErrForm
	}
	page := &octets.Page{}
	page.Put16(len(l))
	for _, g := range l {
		if e := putGlyph(page, g, axes); e != api.OK {
			return nil, e
		}
	}
	// That the page is too long is told at last only, since an outline further on may be wrong.
	return page.All()
}

// putGlyph puts g's outline, its tuples, its advance and its mark.
func putGlyph(page *octets.Page, g api.Glyph, axes int) api.Errno {
	drawn, e := outline.Write(g.Outline)
	if e != api.OK {
		return e
	}
	varied, e := tuples.Write(g.Outline, g.Tuples, axes)
	if e != api.OK {
		return e
	}
	putBlock(page, drawn)
	putBlock(page, varied)
	page.Put16(g.Advance.Base)
	page.Put16(g.Advance.Row)
	mark := 0
	if g.Mark {
		mark = 1
	}
	page.Put8(mark)
	return api.OK
}

// putBlock puts how many bytes b has, and these.
func putBlock(page *octets.Page, b []byte) {
	page.Put32(len(b))
	page.PutBytes(b)
}

// Read answers the glyphs whose bytes b is; ErrBad, if b isn't those of glyphs that are formed for s and so many axes.
func Read(b []byte, s api.Store, axes int) ([]api.Glyph, api.Errno) {
	n, _ := octets.U16(b, 0)
	// Bytes that Write refuses as too long are nobody's. Formed asks for n too; here it keeps small what is read.
	if len(b) > api.MaxBytes || n > api.MaxGlyphs {
		return nil, api.ErrBad
	}
	from := &source{bytes: b, at: fieldBytes}
	var l []api.Glyph
	for range n {
		g, right := from.glyph(axes)
		if !right {
			return nil, api.ErrBad
		}
		l = append(l, g)
	}
	if from.at != len(b) || !Formed(l, s, axes) {
		return nil, api.ErrBad
	}
	return l, api.OK
}

// source gives the glyphs of bytes one by one.
type source struct {
	bytes []byte
	at    int
}

// glyph answers the next glyph; false, if none begins here.
func (s *source) glyph(axes int) (api.Glyph, bool) {
	o, e := outline.Read(s.block())
	if e != api.OK {
		return api.Glyph{}, false
	}
	l, e := tuples.Read(s.block(), o, axes)
	if e != api.OK {
		return api.Glyph{}, false
	}
	base, _ := octets.I16(s.bytes, s.at)
	row, _ := octets.I16(s.bytes, s.at+fieldBytes)
	mark, there := octets.U8(s.bytes, s.at+2*fieldBytes)
	s.at += 2*fieldBytes + markBytes
	return api.Glyph{Outline: o, Tuples: l, Advance: api.Slot{Base: base, Row: row}, Mark: mark == 1}, there && mark <= 1
}

// block answers the next bytes, ahead of which stands how many they are; none, which are neither an outline's nor tuples', if they aren't all there.
func (s *source) block() []byte {
	n, _ := octets.U32(s.bytes, s.at)
	b, there := octets.Cut(s.bytes, s.at+lengthBytes, n)
	if there {
		s.at += lengthBytes + n
	}
	return b
}

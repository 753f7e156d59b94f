package font

import (
	"bytes"

	"foundry/api"
	"foundry/octets"
)

const (
	mostOctet = 255
	mostGlyph = 65535

	leastField = -32768
	mostField  = 32767
)

// Looks answers the bytes of the lookups; ErrForm, if they, or rules, are too many, or a number doesn't fit its field.
func Looks(l []api.Lookup) ([]byte, api.Errno) {
	if !looksFit(l) {
		return nil, api.ErrForm
	}
	page := &octets.Page{}
	page.Put16(len(l))
	for _, lookup := range l {
		page.Put8(lookup.Kind)
		skip := 0
		if lookup.Skip {
			skip = 1
		}
		page.Put8(skip)
		page.Put16(len(lookup.Rules))
		for _, rule := range lookup.Rules {
			putRule(page, rule)
		}
	}
	return page.All()
}

// putRule puts a rule whose numbers fit their fields.
func putRule(page *octets.Page, r api.Rule) {
	putGlyphs(page, r.In)
	putGlyphs(page, r.Out)
	page.Put8(r.At)
	page.Put8(r.Look)
	for _, x := range [...]api.Slot{r.X, r.Y, r.W} {
		page.Put16(x.Base)
		page.Put16(x.Row)
	}
}

// putGlyphs puts how many glyphs there are, and these.
func putGlyphs(page *octets.Page, l []int) {
	page.Put8(len(l))
	for _, glyph := range l {
		page.Put16(glyph)
	}
}

// looksFit answers whether neither the lookups nor the rules of one are too many, and all numbers fit their fields.
func looksFit(l []api.Lookup) bool {
	if len(l) > api.MaxLookups {
		return false
	}
	for _, lookup := range l {
		if len(lookup.Rules) > api.MaxRules || !within(0, mostOctet, lookup.Kind) {
			return false
		}
		for _, rule := range lookup.Rules {
			if !ruleFits(rule) {
				return false
			}
		}
	}
	return true
}

// ruleFits answers whether all numbers of the rule fit their fields. Pages alone don't tell, since they take numbers with a sign and without.
func ruleFits(r api.Rule) bool {
	return within(0, mostOctet, len(r.In), len(r.Out), r.At, r.Look) &&
		within(0, mostGlyph, r.In...) && within(0, mostGlyph, r.Out...) &&
		within(leastField, mostField, r.X.Base, r.X.Row, r.Y.Base, r.Y.Row, r.W.Base, r.W.Row)
}

// within answers whether all numbers are from least to most.
func within(least, most int, numbers ...int) bool {
	for _, n := range numbers {
		if n < least || n > most {
			return false
		}
	}
	return true
}

// ReadLooks answers the lookups whose bytes b is; ErrBad, if b isn't those of lookups.
func ReadLooks(b []byte) ([]api.Lookup, api.Errno) {
	l := (&fields{bytes: b}).lookups()
	// Lookups have one writing only: bytes that lack, are too many, or tell them in another way show here.
	again, e := Looks(l)
	if e != api.OK || !bytes.Equal(again, b) {
		return nil, api.ErrBad
	}
	return l, api.OK
}

// fields gives the fields of bytes one by one; zeros, where bytes lack.
type fields struct {
	bytes []byte
	at    int
}

// lookups takes lookups. Of these, and of rules, it takes no more than there may be, however many the bytes say there are: so little is made of what is wrong.
func (s *fields) lookups() []api.Lookup {
	var l []api.Lookup
	for range min(s.u16(), api.MaxLookups) {
		l = append(l, s.lookup())
	}
	return l
}

// lookup takes a lookup.
func (s *fields) lookup() api.Lookup {
	kind, skip := s.u8(), s.u8()
	var rules []api.Rule
	for range min(s.u16(), api.MaxRules) {
		rules = append(rules, s.rule())
	}
	return api.Lookup{Kind: kind, Skip: skip == 1, Rules: rules}
}

// rule takes a rule.
func (s *fields) rule() api.Rule {
	in, out := s.glyphs(), s.glyphs()
	at, look := s.u8(), s.u8()
	x, y, w := s.slot(), s.slot(), s.slot()
	return api.Rule{In: in, Out: out, At: at, Look: look, X: x, Y: y, W: w}
}

// glyphs takes how many glyphs there are, and these.
func (s *fields) glyphs() []int {
	var l []int
	for range s.u8() {
		l = append(l, s.u16())
	}
	return l
}

// slot takes a slot.
func (s *fields) slot() api.Slot {
	base, row := s.i16(), s.i16()
	return api.Slot{Base: base, Row: row}
}

// next takes the next field, of so many bytes.
func (s *fields) next(read func(b []byte, at int) (int, bool), width int) int {
	n, _ := read(s.bytes, s.at)
	s.at += width
	return n
}

func (s *fields) u8() int  { return s.next(octets.U8, 1) }
func (s *fields) u16() int { return s.next(octets.U16, 2) }
func (s *fields) i16() int { return s.next(octets.I16, 2) }

package feats

import (
	"foundry/api"
	"foundry/octets"
)

const (
	mostNumbers = 65536 // as many as a field of two bytes tells apart
	tagBytes    = 4
	fieldBytes  = 2
)

// Write answers the bytes of l and swaps; ErrForm, if they aren't formed for that many lookups and axes, or one of these is above 65536.
func Write(l []api.Feature, swaps []api.Swap, looks, axes int) ([]byte, api.Errno) {
	if !Formed(l, swaps, looks, axes) || looks > mostNumbers || axes > mostNumbers {
		return nil, api.ErrForm
	}
	page := &octets.Page{}
	putList(page, l, func(feature api.Feature) {
		page.PutTag(feature.Tag)
		putList(page, feature.Looks, page.Put16)
	})
	putList(page, swaps, func(swap api.Swap) {
		putList(page, swap.Conds, func(c api.Cond) {
			page.Put16(c.Axis)
			page.Put16(c.Least)
			page.Put16(c.Most)
		})
		page.Put16(swap.Feature)
		putList(page, swap.Looks, page.Put16)
	})
	return page.All()
}

// putList puts how many there are of l, and each of them.
func putList[T any](page *octets.Page, l []T, put func(T)) {
	page.Put16(len(l))
	for _, x := range l {
		put(x)
	}
}

// Read answers the features and swaps whose bytes b is; ErrBad, if b isn't those of ones that are formed for that many lookups and axes, or one of these is above 65536.
func Read(b []byte, looks, axes int) ([]api.Feature, []api.Swap, api.Errno) {
	if looks > mostNumbers || axes > mostNumbers {
		return nil, nil, api.ErrBad
	}
	from := &source{bytes: b}
	l := takeList(from, api.MaxFeatures, from.feature)
	swaps := takeList(from, api.MaxSwaps, from.swap)
	if from.at != len(b) || !Formed(l, swaps, looks, axes) {
		return nil, nil, api.ErrBad
	}
	return l, swaps, api.OK
}

// source gives what stands in bytes, one behind the other. It goes on where bytes lack, with zero values: then it ends behind the last byte.
type source struct {
	bytes []byte
	at    int
}

// takeList takes how many there are, and each of them; of more than most just one more, which Formed refuses: so little is read of what is wrong.
func takeList[T any](s *source, most int, take func() T) []T {
	var l []T
	for range min(s.number(), most+1) {
		l = append(l, take())
	}
	return l
}

// feature takes a feature. A tag that isn't good is taken as no text, which no formed feature has.
func (s *source) feature() api.Feature {
	tag, _ := octets.Tag(s.bytes, s.at)
	s.at += tagBytes
	return api.Feature{Tag: tag, Looks: takeList(s, api.MaxLookups, s.number)}
}

// swap takes a swap.
func (s *source) swap() api.Swap {
	conds := takeList(s, api.MaxAxes, s.cond)
	feature := s.number()
	return api.Swap{Conds: conds, Feature: feature, Looks: takeList(s, api.MaxLookups, s.number)}
}

// cond takes a Cond.
func (s *source) cond() api.Cond {
	axis := s.number()
	least := s.signed()
	return api.Cond{Axis: axis, Least: least, Most: s.signed()}
}

// number takes a field without a sign.
func (s *source) number() int {
	n, _ := octets.U16(s.bytes, s.at)
	s.at += fieldBytes
	return n
}

// signed takes a field with a sign.
func (s *source) signed() int {
	n, _ := octets.I16(s.bytes, s.at)
	s.at += fieldBytes
	return n
}

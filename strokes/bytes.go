package strokes

import (
	"foundry/api"
	"foundry/octets"
)

const (
	countBytes = 2 // how many drawings there are, or steps
	doBytes    = 1
	fieldBytes = 2 // a Base, or a Row
)

// Write answers the bytes of l; ErrForm, if they aren't formed for s.
func Write(l [][]api.Step, s api.Store) ([]byte, api.Errno) {
	if !Formed(l, s) {
		return nil, api.ErrForm
	}
	page := &octets.Page{}
	page.Put16(len(l))
	for _, drawing := range l {
		page.Put16(len(drawing))
		for _, step := range drawing {
			putStep(page, step)
		}
	}
	return page.All()
}

// putStep puts what is done, and the Args; how many these are follows of that.
func putStep(page *octets.Page, step api.Step) {
	page.Put8(step.Do)
	for _, x := range step.Args {
		page.Put16(x.Base)
		page.Put16(x.Row)
	}
}

// Read answers the drawings whose bytes b is; ErrBad, if b isn't those of drawings that are formed for s.
func Read(b []byte, s api.Store) ([][]api.Step, api.Errno) {
	from := &source{bytes: b}
	n, right := from.count(api.MaxDrawings)
	if !right {
		return nil, api.ErrBad
	}
	l := make([][]api.Step, 0, n)
	for range n {
		drawing, right := from.drawing()
		if !right {
			return nil, api.ErrBad
		}
		l = append(l, drawing)
	}
	if from.at != len(b) || !Formed(l, s) {
		return nil, api.ErrBad
	}
	return l, api.OK
}

// source gives the drawings of bytes one by one.
type source struct {
	bytes []byte
	at    int
}

// count answers how many there are of what comes next; false, if that isn't told, or they are more than these. (Formed asks for that too; here it keeps small what is read.)
func (s *source) count(most int) (int, bool) {
	n, there := octets.U16(s.bytes, s.at)
	s.at += countBytes
	return n, there && n <= most
}

// drawing answers the next drawing; false, if none begins here.
func (s *source) drawing() ([]api.Step, bool) {
	n, right := s.count(api.MaxSteps)
	if !right {
		return nil, false
	}
	l := make([]api.Step, 0, n)
	for range n {
		step, right := s.step()
		if !right {
			return nil, false
		}
		l = append(l, step)
	}
	return l, true
}

// step answers the next step; false, if none begins here.
func (s *source) step() (api.Step, bool) {
	// Where the byte lacks this is 0, which no step does.
	do, _ := octets.U8(s.bytes, s.at)
	n := argsOf(do)
	if n == 0 {
		return api.Step{}, false
	}
	s.at += doBytes
	args := make([]api.Slot, 0, n)
	for range n {
		base, _ := octets.I16(s.bytes, s.at)
		row, there := octets.I16(s.bytes, s.at+fieldBytes)
		if !there {
			return api.Step{}, false
		}
		s.at += 2 * fieldBytes
		args = append(args, api.Slot{Base: base, Row: row})
	}
	return api.Step{Do: do, Args: args}, true
}

package font

import (
	"slices"

	"foundry/api"
)

// Same answers whether f and g are alike, formed or not.
func Same(f, g api.Font) bool {
	return lists(equal[api.Axis])(f.Axes, g.Axes) &&
		lists(lists(equal[api.Pair]))(f.Bends, g.Bends) &&
		sameStore(f.Store, g.Store) &&
		lists(sameGlyph)(f.Glyphs, g.Glyphs) &&
		lists(equal[api.Metric])(f.Metrics, g.Metrics) &&
		lists(lists(sameStep))(f.Drawings, g.Drawings) &&
		lists(equal[api.Range])(f.Ranges, g.Ranges) &&
		lists(sameLookup)(f.Looks, g.Looks) &&
		lists(sameFeature)(f.Features, g.Features) &&
		lists(sameSwap)(f.Swaps, g.Swaps)
}

// lists answers how lists are compared whose members are compared by same. None is like one of no elements.
func lists[T any](same func(a, b T) bool) func(a, b []T) bool {
	return func(a, b []T) bool { return slices.EqualFunc(a, b, same) }
}

// equal compares what holds no lists.
func equal[T comparable](a, b T) bool {
	return a == b
}

// numbers compares lists of numbers.
func numbers(a, b []int) bool {
	return lists(equal[int])(a, b)
}

func sameStore(a, b api.Store) bool {
	return lists(lists(equal[api.Tent]))(a.Regions, b.Regions) && lists(numbers)(a.Rows, b.Rows)
}

func sameGlyph(a, b api.Glyph) bool {
	return sameOutline(a.Outline, b.Outline) && lists(sameTuple)(a.Tuples, b.Tuples) &&
		a.Advance == b.Advance && a.Mark == b.Mark
}

func sameOutline(a, b api.Outline) bool {
	return lists(lists(equal[api.Point]))(a.Contours, b.Contours) && lists(equal[api.Part])(a.Parts, b.Parts)
}

func sameTuple(a, b api.Tuple) bool {
	return lists(equal[api.Tent])(a.Region, b.Region) && a.All == b.All &&
		numbers(a.Points, b.Points) && numbers(a.DX, b.DX) && numbers(a.DY, b.DY)
}

func sameStep(a, b api.Step) bool {
	return a.Do == b.Do && lists(equal[api.Slot])(a.Args, b.Args)
}

func sameLookup(a, b api.Lookup) bool {
	return a.Kind == b.Kind && a.Skip == b.Skip && lists(sameRule)(a.Rules, b.Rules)
}

func sameRule(a, b api.Rule) bool {
	return numbers(a.In, b.In) && numbers(a.Out, b.Out) && a.At == b.At && a.Look == b.Look &&
		a.X == b.X && a.Y == b.Y && a.W == b.W
}

func sameFeature(a, b api.Feature) bool {
	return a.Tag == b.Tag && numbers(a.Looks, b.Looks)
}

func sameSwap(a, b api.Swap) bool {
	return lists(equal[api.Cond])(a.Conds, b.Conds) && a.Feature == b.Feature && numbers(a.Looks, b.Looks)
}

package command

import (
	"slices"

	"greenscreen/order"
)

// lists is two lists of fields, as many in either, that are to be held against each other.
type lists struct{ a, b []Field }

// begins is where two lists begin, and how many fields each of them has.
type begins struct {
	a, b *Field
	many int
}

// alike tells whether two commands are the same, but for what stands in their fields.
func alike(a, b Command) bool {
	return a.Kind == b.Kind && a.WCC == b.WCC && a.Err == b.Err &&
		slices.EqualFunc(a.Orders, b.Orders, order.Same) && len(a.Fields) == len(b.Fields)
}

// Same tells whether two commands are the same.
func Same(a, b Command) bool {
	// Fields within fields wait for their turn: a call within a call for each may run out of stack. Lists that have met aren't held against each other again: a list may stand within itself, and this would never end.
	var waiting []lists
	met := map[begins]struct{}{}
	same := func(a, b Command) bool {
		if !alike(a, b) {
			return false
		}
		if len(a.Fields) == 0 {
			return true
		}
		at := begins{&a.Fields[0], &b.Fields[0], len(a.Fields)}
		if _, again := met[at]; !again {
			met[at] = struct{}{}
			waiting = append(waiting, lists{a.Fields, b.Fields})
		}
		return true
	}
	sameField := func(x, y Field) bool { return x.ID == y.ID && x.Op == y.Op && same(x.Inner, y.Inner) }
	if !same(a, b) {
		return false
	}
	for len(waiting) > 0 {
		last := waiting[len(waiting)-1]
		waiting = waiting[:len(waiting)-1]
		if !slices.EqualFunc(last.a, last.b, sameField) {
			return false
		}
	}
	return true
}

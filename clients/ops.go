package clients

import (
	"slices"

	"panes/api"
	"panes/bounds"
)

// surfaces tells which surfaces a client has, by their numbers. It is an array, so that what is tried on a copy leaves it as it was.
type surfaces [api.MaxSurfaces]bool

// after tells which surfaces there are when the operations have been done, and whether each of them may be, of surfaces 0 to count - 1.
func (s surfaces) after(ops []api.Op, count int) (surfaces, bool) {
	for _, op := range ops {
		if !allowed(op) {
			return surfaces{}, false
		}
		if op.Kind == api.Ask {
			continue
		}
		if !bounds.Within(op.Surface, 0, count-1) || s[op.Surface] == (op.Kind == api.Create) {
			return surfaces{}, false
		}
		s[op.Surface] = op.Kind != api.Destroy
	}
	return s, true
}

// allowed tells whether an operation is of one of the kinds, and what its kind has is within the bounds, whatever surface it is for.
func allowed(op api.Op) bool {
	switch op.Kind {
	case api.Create, api.Move:
		return bounds.Within(op.X, -api.MaxMove, api.MaxMove) && bounds.Within(op.Y, -api.MaxMove, api.MaxMove)
	case api.Attach:
		return bounds.Within(op.W, 1, api.MaxBuffer) && bounds.Within(op.H, 1, api.MaxBuffer) &&
			len(op.Pixels) == op.W*op.H && !slices.ContainsFunc(op.Pixels, notPixel)
	case api.Slide:
		return bounds.Within(op.X, -api.MaxStep, api.MaxStep) && bounds.Within(op.Y, -api.MaxStep, api.MaxStep) &&
			bounds.Within(op.W, 1, api.MaxSlide)
	case api.Destroy, api.Raise, api.Lower, api.Ask:
		return true
	}
	return false
}

func notPixel(n int) bool { return !bounds.Within(n, 0, api.MaxPixel) }

// cost is asked only of operations that are allowed: no product of theirs can wrap round.
func cost(ops []api.Op) int {
	sum := len(ops)
	for _, op := range ops {
		if op.Kind == api.Attach {
			sum += op.W * op.H
		}
	}
	return sum
}

// copies shares no memory with what was handed in. Pixels that are not looked at may be very many, and are left out.
func copies(ops []api.Op) []api.Op {
	kept := slices.Clone(ops)
	for i, op := range ops {
		kept[i].Pixels = nil
		if op.Kind == api.Attach {
			kept[i].Pixels = slices.Clone(op.Pixels)
		}
	}
	return kept
}

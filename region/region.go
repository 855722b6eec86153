// Package region: sets of pixels, told by lists of rectangles.
package region

import (
	"cmp"
	"slices"

	"panes/api"
	"panes/bounds"
)

// Allowed tells whether a list may be handed in: how many there are, and each of them.
func Allowed(l []api.Rect) bool {
	return len(l) <= api.MaxRects && !slices.ContainsFunc(l, outOfBounds)
}

// outOfBounds holds every number against its bounds before anything is added up, so that no sum can wrap round.
func outOfBounds(r api.Rect) bool {
	return !bounds.Within(r.X, -api.MaxPlace, api.MaxPlace) || !bounds.Within(r.Y, -api.MaxPlace, api.MaxPlace) ||
		!bounds.Within(r.W, 0, api.MaxPlace) || !bounds.Within(r.H, 0, api.MaxPlace)
}

// Union tells the one right list for what one list or the other covers.
func Union(a, b []api.Rect) []api.Rect { return combine(a, b, either) }

// Intersect tells the one right list for what both lists cover.
func Intersect(a, b []api.Rect) []api.Rect { return combine(a, b, both) }

// Subtract tells the one right list for what the first list covers, and the second one does not.
func Subtract(a, b []api.Rect) []api.Rect { return combine(a, b, without) }

// Area tells how many pixels a list covers, each counted once.
func Area(l []api.Rect) int {
	n := 0
	for _, r := range Union(l, nil) {
		n += r.W * r.H
	}
	return n
}

// combine goes from strip to strip: rows between two edges, in all of which either list covers the same columns.
// What mix is given and what it gives are pieces of one strip, as high as it, by X, no two of a list touching.
func combine(a, b []api.Rect, mix func(a, b []api.Rect) []api.Rect) []api.Rect {
	var all []api.Rect
	band := 0 // where the last band begins in all
	rows := edges(a, b)
	for i := 1; i < len(rows); i++ {
		top, bottom := rows[i-1], rows[i]
		strip := mix(pieces(a, top, bottom), pieces(b, top, bottom))
		if goesOn(all[band:], strip) {
			lengthen(all[band:], bottom-top)
			continue
		}
		band = len(all)
		all = append(all, strip...)
	}
	return all
}

// edges tells the rows at which a rectangle begins or has just ended, from the top down, each once.
func edges(lists ...[]api.Rect) []int {
	var rows []int
	for _, l := range lists {
		for _, r := range l {
			rows = append(rows, r.Y, r.Y+r.H)
		}
	}
	slices.Sort(rows)
	return slices.Compact(rows)
}

// pieces tells what a list covers of a strip in which no rectangle of it begins or ends.
func pieces(l []api.Rect, top, bottom int) []api.Rect {
	var found []api.Rect
	for _, r := range l {
		p := Cut(r, api.Rect{X: r.X, Y: top, W: r.W, H: bottom - top})
		if p.W > 0 && p.H > 0 {
			found = append(found, p)
		}
	}
	return join(found)
}

// Cut tells what two rectangles both cover; without width or height, where they do not meet.
func Cut(p, q api.Rect) api.Rect {
	x, y := max(p.X, q.X), max(p.Y, q.Y)
	right, bottom := min(p.X+p.W, q.X+q.W), min(p.Y+p.H, q.Y+q.H)
	return api.Rect{X: x, Y: y, W: max(0, right-x), H: max(0, bottom-y)}
}

// join puts pieces of one strip in order, and makes one of those that touch. It sorts the list in place: hand in none that somebody else holds.
func join(strip []api.Rect) []api.Rect {
	slices.SortFunc(strip, func(p, q api.Rect) int { return cmp.Compare(p.X, q.X) })
	var joined []api.Rect
	for _, p := range strip {
		last := len(joined) - 1
		if last < 0 || joined[last].X+joined[last].W < p.X {
			joined = append(joined, p)
			continue
		}
		joined[last].W = max(joined[last].W, p.X+p.W-joined[last].X)
	}
	return joined
}

func either(a, b []api.Rect) []api.Rect { return join(slices.Concat(a, b)) }

func both(a, b []api.Rect) []api.Rect {
	var strip []api.Rect
	for _, p := range a {
		for _, q := range b {
			if c := Cut(p, q); c.W > 0 {
				strip = append(strip, c)
			}
		}
	}
	return strip
}

func without(a, b []api.Rect) []api.Rect {
	var strip []api.Rect
	for _, p := range a {
		x, end := p.X, p.X+p.W
		for _, q := range b {
			strip = addColumns(strip, p, x, min(q.X, end))
			x = max(x, q.X+q.W)
		}
		strip = addColumns(strip, p, x, end)
	}
	return strip
}

// addColumns adds a piece as high as p, of the columns from x to end - 1, if there are any.
func addColumns(strip []api.Rect, p api.Rect, x, end int) []api.Rect {
	if x >= end {
		return strip
	}
	return append(strip, api.Rect{X: x, Y: p.Y, W: end - x, H: p.H})
}

// goesOn tells whether a strip lies right below a band and has the same columns: it is then of that band.
func goesOn(band, strip []api.Rect) bool {
	return slices.EqualFunc(band, strip, func(p, q api.Rect) bool {
		return p == api.Rect{X: q.X, Y: q.Y - p.H, W: q.W, H: p.H}
	})
}

func lengthen(band []api.Rect, rows int) {
	for i := range band {
		band[i].H += rows
	}
}

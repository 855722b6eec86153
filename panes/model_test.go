package panes_test

import (
	"math/rand"
	"slices"

	"panes/api"
)

// The model is as plain as can be: pixel by pixel on a small field, and the one right list read off row by row.

const (
	fieldStart = -4
	fieldEnd   = 16
)

func r(x, y, w, h int) api.Rect { return api.Rect{X: x, Y: y, W: w, H: h} }

func covers(l []api.Rect, x, y int) bool {
	return slices.ContainsFunc(l, func(r api.Rect) bool {
		return r.X <= x && x <= r.X+r.W-1 && r.Y <= y && y <= r.Y+r.H-1
	})
}

// columns tells which columns of a row are in the set, in order.
func columns(y int, in func(x, y int) bool) []int {
	var found []int
	for x := fieldStart; x < fieldEnd; x++ {
		if in(x, y) {
			found = append(found, x)
		}
	}
	return found
}

// rightList tells the one right list for the pixels of the field that are in the set.
func rightList(in func(x, y int) bool) []api.Rect {
	var list []api.Rect
	for y := fieldStart; y < fieldEnd; {
		row := columns(y, in)
		high := 1
		for y+high < fieldEnd && slices.Equal(columns(y+high, in), row) {
			high++
		}
		for i := 0; i < len(row); {
			wide := 1
			for i+wide < len(row) && row[i+wide] == row[i]+wide {
				wide++
			}
			list = append(list, r(row[i], y, wide, high))
			i += wide
		}
		y += high
	}
	return list
}

func count(in func(x, y int) bool) int {
	n := 0
	for y := fieldStart; y < fieldEnd; y++ {
		n += len(columns(y, in))
	}
	return n
}

// someRects makes a list within the field, some of it without width or height.
func someRects(rnd *rand.Rand, most int) []api.Rect {
	var l []api.Rect
	for range rnd.Intn(most + 1) {
		l = append(l, r(rnd.Intn(12)-3, rnd.Intn(12)-3, rnd.Intn(6), rnd.Intn(6)))
	}
	return l
}

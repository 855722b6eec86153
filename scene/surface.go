package scene

import "panes/bounds"

type place struct {
	x, y int
}

// slide: how far a surface goes with a tick, and with how many to come.
type slide struct {
	step place
	left int
}

// surface has a place and, unless its width and height are 0, a buffer of pixels, row by row.
type surface struct {
	place  place
	w, h   int
	pixels []int
	slide  slide
}

// at tells the pixel at a column and row of the output; clear, where the surface has none.
func (s *surface) at(x, y int) int {
	column, row := x-s.place.x, y-s.place.y
	if !bounds.Within(column, 0, s.w-1) || !bounds.Within(row, 0, s.h-1) {
		return 0
	}
	return s.pixels[row*s.w+column]
}

// move tells whether the place is another one than before.
func (s *surface) move(to place) bool {
	from := s.place
	s.place = to
	return from != to
}

// goOn slides by a step, if the surface slides, and tells whether its place is another one then.
func (s *surface) goOn() bool {
	if s.slide.left == 0 {
		return false
	}
	s.slide.left--
	return s.move(place{s.place.x + s.slide.step.x, s.place.y + s.slide.step.y})
}

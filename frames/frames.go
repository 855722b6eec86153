// Package frames: three buffers that hold pictures; one is shown, while the next frame is painted into another one.
package frames

import (
	"slices"

	"panes/api"
	"panes/region"
)

// buffer holds a picture, row by row.
type buffer struct {
	pixels []int
	stale  []bool // what was damaged since its frame was begun
	begun  int    // the tick in which that was; 0, if none was
}

// dot is a pixel that must be painted, as it was when the frame was begun.
type dot struct {
	at, pixel int
}

// frame is whole when nothing is left to be painted.
type frame struct {
	buffer int
	marks  []api.Fired
	left   []dot
}

// Frames has the three buffers, and the frame that is painted, if there is one.
type Frames struct {
	output  api.Rect
	buffers [3]buffer
	front   int
	frame   *frame
	due     bool        // whether there is a reason for a frame since the last one was begun
	marks   []api.Fired // those that are in no frame yet
}

// New makes buffers of this width and height, with the same pixel everywhere.
func New(w, h, behind int) *Frames {
	f := &Frames{output: api.Rect{W: w, H: h}}
	for i := range f.buffers {
		f.buffers[i].pixels = slices.Repeat([]int{behind}, w*h)
		f.buffers[i].stale = make([]bool, w*h)
	}
	return f
}

// Damage tells that the picture may be another one in these rectangles. What lies outside the output is no reason for a frame.
func (f *Frames) Damage(l []api.Rect) {
	for _, r := range l {
		seen := region.Cut(r, f.output)
		for i := range seen.W * seen.H {
			f.damage((seen.Y+i/seen.W)*f.output.W + seen.X + i%seen.W)
		}
	}
}

func (f *Frames) damage(at int) {
	f.due = true
	for i := range f.buffers {
		f.buffers[i].stale[at] = true
	}
}

// Request asks for a frame, even if nothing is damaged.
func (f *Frames) Request() { f.due = true }

// Ask lets a mark be told when the next frame that is begun is shown.
func (f *Frames) Ask(mark api.Fired) { f.marks = append(f.marks, mark) }

// Forget drops all marks of a client, also those of a frame.
func (f *Frames) Forget(client int) {
	of := func(mark api.Fired) bool { return mark.Client == client }
	f.marks = slices.DeleteFunc(f.marks, of)
	if f.frame != nil {
		f.frame.marks = slices.DeleteFunc(f.frame.marks, of)
	}
}

// Flip shows the frame, if there is one that is whole: then it tells 1, and the frame's marks, which are not kept.
func (f *Frames) Flip() (int, []api.Fired) {
	if f.frame == nil || len(f.frame.left) > 0 {
		return 0, nil
	}
	shown := f.frame
	f.front, f.frame = shown.buffer, nil
	return 1, shown.marks
}

// Begin begins a frame in this tick, with the picture as it is now, if there is none and one is due.
func (f *Frames) Begin(tick int, picture func(x, y int) int) {
	if f.frame != nil || !f.due {
		return
	}
	next := f.next()
	b := &f.buffers[next]
	f.frame = &frame{buffer: next, marks: f.marks, left: f.dots(b.stale, picture)}
	f.due, f.marks = false, nil
	clear(b.stale)
	b.begun = tick
}

// next tells, of the two buffers that are not the front, the one of which the frame was begun longer ago. None is longer ago than any; and of two without one the first is taken.
func (f *Frames) next() int {
	next := -1
	for i := range f.buffers {
		if i != f.front && (next < 0 || f.buffers[i].begun < f.buffers[next].begun) {
			next = i
		}
	}
	return next
}

// dots tells what must be painted where a buffer is stale. The picture may change while that is painted, and is therefore looked at now.
func (f *Frames) dots(stale []bool, picture func(x, y int) int) []dot {
	var all []dot
	for at, is := range stale {
		if is {
			all = append(all, dot{at, picture(at%f.output.W, at/f.output.W)})
		}
	}
	return all
}

// Paint paints what is left of the frame, as far as the budget goes.
func (f *Frames) Paint(budget *Budget) {
	if f.frame == nil {
		return
	}
	pixels := f.buffers[f.frame.buffer].pixels
	for len(f.frame.left) > 0 {
		select {
		case <-budget.done:
			return
		default:
			next := f.frame.left[0]
			pixels[next.at] = next.pixel
			f.frame.left = f.frame.left[1:]
			budget.spend()
		}
	}
}

// Front tells the pixels that are shown.
func (f *Frames) Front() []int { return slices.Clone(f.buffers[f.front].pixels) }

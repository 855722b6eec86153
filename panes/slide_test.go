package panes_test

import (
	"slices"
	"testing"

	"panes/api"
	"panes/panes"
)

// wantPlaces lets time go on, and holds where the pixel 5 is shown, tick by tick, against what is wanted; -1 is nowhere. Where the surface goes in a tick is shown with the next one.
func wantPlaces(t *testing.T, s *panes.Screen, want ...int) {
	t.Helper()
	var got []int
	for range want {
		s.Tick(1000)
		got = append(got, slices.Index(s.Front(), 5))
	}
	if !slices.Equal(got, want) {
		t.Fatalf("P9: the surface was seen at %v, want %v", got, want)
	}
}

// slider has a surface 0 of one pixel 5, in column 2 of 8, that is shown.
func slider(t *testing.T) *panes.Screen {
	t.Helper()
	s := line(t, 8)
	wantSubmit(t, s, 0, api.OK, createAt(0, 2, 0), pixels(5))
	settle(t, s)
	return s
}

func TestP9Slide(t *testing.T) {
	for _, c := range []struct {
		name string
		ops  []api.Op
		want []int
	}{
		{"a step", []api.Op{slide(0, 1, 0, 1)}, []int{2, 2, 3, 3, 3}},
		{"three steps", []api.Op{slide(0, 1, 0, 3)}, []int{2, 2, 3, 4, 5, 5, 5}},
		{"great steps", []api.Op{slide(0, 4, 0, 1)}, []int{2, 2, 6, 6}},
		{"back", []api.Op{slide(0, -1, 0, 2)}, []int{2, 2, 1, 0, 0}},
		{"out", []api.Op{slide(0, 3, 0, 20)}, []int{2, 2, 5, -1, -1, -1}},
		{"down", []api.Op{slide(0, 0, 1, 1)}, []int{2, 2, -1, -1}},
		{"nowhere", []api.Op{slide(0, 0, 0, 20)}, []int{2, 2, 2, 2}},
		{"a second Slide ends the first", []api.Op{slide(0, 4, 0, 20), slide(0, 1, 0, 2)}, []int{2, 2, 3, 4, 4, 4}},
		{"Move ends it", []api.Op{slide(0, 1, 0, 20), move(0, 4, 0)}, []int{2, 4, 4, 4, 4}},
		{"Move to its place ends it", []api.Op{slide(0, 1, 0, 20), move(0, 2, 0)}, []int{2, 2, 2, 2, 2}},
		{"Move ahead of it", []api.Op{move(0, 4, 0), slide(0, 1, 0, 2)}, []int{2, 4, 5, 6, 6, 6}},
		{"Destroy ends it", []api.Op{slide(0, 1, 0, 20), destroy(0), createAt(0, 3, 0), pixels(5)}, []int{2, 3, 3, 3}},
		{"Attach, Raise and Lower do not", []api.Op{slide(0, 1, 0, 2), pixels(5), raise(0), lower(0)}, []int{2, 2, 3, 4, 4}},
	} {
		t.Run(c.name, func(t *testing.T) {
			s := slider(t)
			wantSubmit(t, s, 0, api.OK, c.ops...)
			wantPlaces(t, s, c.want...)
		})
	}
}

// TestP9SlideLater: what comes in a later tick finds the slide on its way.
func TestP9SlideLater(t *testing.T) {
	for _, c := range []struct {
		name string
		op   api.Op
		want []int
	}{
		{"Ask", ask(1), []int{3, 4, 5, 6, 6}},
		{"Slide", slide(0, -1, 0, 3), []int{3, 4, 3, 2, 1, 1}},
		{"Move", move(0, 0, 0), []int{3, 0, 0, 0}},
		{"Move to where it is", move(0, 4, 0), []int{3, 4, 4, 4}},
		{"Raise", raise(0), []int{3, 4, 5, 6, 6}},
		{"Attach", pixels(5), []int{3, 4, 5, 6, 6}},
		{"Destroy", destroy(0), []int{3, -1, -1}},
	} {
		t.Run(c.name, func(t *testing.T) {
			s := slider(t)
			wantSubmit(t, s, 0, api.OK, slide(0, 1, 0, 4))
			wantPlaces(t, s, 2, 2)
			wantSubmit(t, s, 0, api.OK, c.op)
			wantPlaces(t, s, c.want...)
		})
	}
}

// TestP9SlideDamage: a step damages what the buffer covered and covers, if that lies in the output; and only then there is a frame.
func TestP9SlideDamage(t *testing.T) {
	s := line(t, 8)
	wantSubmit(t, s, 0, api.OK, createAt(0, 3, 0), filled(0, 2, 1, 5))
	settle(t, s)
	wantSubmit(t, s, 0, api.OK, slide(0, 3, 0, 5))
	wantTick(t, s, 9, [4]int{7, 0, 0, 1})
	wantTick(t, s, 9, [4]int{8, 1, 4, 0})  // from 3 to 6
	wantTick(t, s, 9, [4]int{9, 1, 4, 0})  // from 6 to 9: nothing more is in the output
	wantTick(t, s, 9, [4]int{10, 1, 0, 0}) // what is damaged lies outside: no frame
	wantTick(t, s, 9, [4]int{11, 0, 0, 0})
	wantSubmit(t, s, 0, api.OK, ask(1))
	wantTick(t, s, 9, [4]int{12, 0, 4, 1}) // 15 to 18, the last step; the third buffer is behind
	wantSubmit(t, s, 0, api.OK, slide(0, -4, 0, 3))
	wantTick(t, s, 9, [4]int{13, 1, 2, 1}, 1)
	wantTick(t, s, 9, [4]int{14, 1, 0, 0})
	wantTick(t, s, 9, [4]int{15, 0, 0, 0}) // at 10
	wantTick(t, s, 9, [4]int{16, 0, 2, 0}) // at 6
	wantTick(t, s, 9, [4]int{17, 1, 0, 0})
	wantFront(t, s, 1, 1, 1, 1, 1, 1, 5, 5)
}

// TestP9SlideNothing: a slide that is not seen is no reason for a frame, but goes on.
func TestP9SlideNothing(t *testing.T) {
	s := line(t, 8)
	wantSubmit(t, s, 0, api.OK, create(0), slide(0, 1, 0, 4), create(1), filled(1, 1, 1, 6), slide(1, 0, 0, 20))
	wantTick(t, s, 9, [4]int{1, 0, 1, 1})
	wantTick(t, s, 9, [4]int{2, 1, 0, 0})
	for n := 3; n <= 6; n++ {
		wantTick(t, s, 9, [4]int{n, 0, 0, 0})
	}
	wantSubmit(t, s, 0, api.OK, pixels(5))
	wantTick(t, s, 9, [4]int{7, 0, 2, 1})
	wantTick(t, s, 9, [4]int{8, 1, 0, 0})
	wantFront(t, s, 6, 1, 1, 1, 5, 1, 1, 1)
}

// TestP9SlideFar: a slide may bring a surface beyond MaxMove, and another one back.
func TestP9SlideFar(t *testing.T) {
	s := line(t, 8)
	wantSubmit(t, s, 0, api.OK, createAt(0, 100, -100), pixels(5))
	for _, x := range []int{4, -4} {
		for range 30 {
			wantSubmit(t, s, 0, api.OK, slide(0, x, -x, 20))
			for range 20 {
				if r, _ := s.Tick(9); r.Painted != 0 {
					t.Fatalf("P9: %+v, with nothing in the output", r)
				}
			}
		}
	}
	wantSubmit(t, s, 0, api.OK, slide(0, -4, 4, 20))
	for range 20 {
		s.Tick(9)
	}
	wantSubmit(t, s, 0, api.OK, slide(0, -4, 4, 5))
	wantPlaces(t, s, -1, -1, -1, -1, -1, -1, 0)
}

// TestP9SlideAheadOfAll: the step is made ahead of what is admitted in its tick.
func TestP9SlideAheadOfAll(t *testing.T) {
	s := slider(t)
	wantSubmit(t, s, 0, api.OK, slide(0, 1, 0, 1))
	wantPlaces(t, s, 2)
	wantSubmit(t, s, 0, api.OK, move(0, 6, 0))
	wantPlaces(t, s, 2, 6, 6)
}

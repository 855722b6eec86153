package panes_test

import (
	"math"
	"slices"
	"testing"

	"panes/api"
	"panes/panes"
)

func createAt(n, x, y int) api.Op { return api.Op{Kind: api.Create, Surface: n, X: x, Y: y} }

func move(n, x, y int) api.Op { return api.Op{Kind: api.Move, Surface: n, X: x, Y: y} }

func raise(n int) api.Op { return api.Op{Kind: api.Raise, Surface: n} }

func lower(n int) api.Op { return api.Op{Kind: api.Lower, Surface: n} }

func slide(n, x, y, ticks int) api.Op {
	return api.Op{Kind: api.Slide, Surface: n, X: x, Y: y, W: ticks}
}

func filled(n, w, h, pixel int) api.Op {
	return api.Op{Kind: api.Attach, Surface: n, W: w, H: h, Pixels: slices.Repeat([]int{pixel}, w*h)}
}

// wantTick holds a report against its number, flip and painted pixels, how many of client 0 were admitted, and the marks of client 0 that were fired.
func wantTick(t *testing.T, s *panes.Screen, budget int, numbers [4]int, marks ...int) {
	t.Helper()
	r, e := s.Tick(budget)
	var fired []int
	for _, f := range r.Fired {
		if f.Client == 0 {
			fired = append(fired, f.Mark)
		}
	}
	if e != api.OK || len(r.Admitted) == 0 {
		t.Fatalf("P9: Tick(%d) = %+v, %d", budget, r, e)
	}
	if got := [4]int{r.Tick, r.Flip, r.Painted, r.Admitted[0]}; got != numbers || !slices.Equal(fired, marks) {
		t.Fatalf("P9: Tick(%d) = %v %v, want %v %v", budget, got, r.Fired, numbers, marks)
	}
}

func wantReport(t *testing.T, s *panes.Screen, budget int, want api.Report) {
	t.Helper()
	if got, e := s.Tick(budget); e != api.OK || !same(got, want) {
		t.Fatalf("P9: Tick(%d) = %+v, %d, want %+v", budget, got, e, want)
	}
}

func wantFront(t *testing.T, s *panes.Screen, want ...int) {
	t.Helper()
	if got := s.Front(); !slices.Equal(got, want) {
		t.Fatalf("P10: Front() = %v, want %v", got, want)
	}
}

// settle shows what there is in all three buffers, one after the other, and leaves no frame behind.
func settle(t *testing.T, s *panes.Screen) {
	t.Helper()
	for range 3 {
		wantSubmit(t, s, 0, api.OK, ask(0))
		for range 2 {
			if _, e := s.Tick(1000); e != api.OK {
				t.Fatalf("P9: Tick = %d", e)
			}
		}
	}
}

// line makes a screen of one row, with client 0.
func line(t *testing.T, w int) *panes.Screen {
	t.Helper()
	c := great()
	c.W, c.H = w, 1
	return screen(t, c, 1)
}

// TestP9Example: the examples of the document.
func TestP9Example(t *testing.T) {
	s := screen(t, small(), 1)
	wantFront(t, s, 9, 9, 9, 9, 9, 9, 9, 9)
	wantSubmit(t, s, 0, api.OK, createAt(0, 1, 0), pixels(5, 0), ask(77))
	wantTick(t, s, 1, [4]int{1, 0, 1, 1})
	wantFront(t, s, 9, 9, 9, 9, 9, 9, 9, 9)
	wantTick(t, s, 1, [4]int{2, 0, 1, 0})
	wantFront(t, s, 9, 9, 9, 9, 9, 9, 9, 9)
	wantTick(t, s, 1, [4]int{3, 1, 0, 0}, 77)
	wantFront(t, s, 9, 5, 9, 9, 9, 9, 9, 9)
	wantSubmit(t, s, 0, api.OK, move(0, 2, 1))
	wantTick(t, s, 9, [4]int{4, 0, 4, 1})
	wantFront(t, s, 9, 5, 9, 9, 9, 9, 9, 9)
	wantTick(t, s, 0, [4]int{5, 1, 0, 0})
	wantFront(t, s, 9, 9, 9, 9, 9, 9, 5, 9)
	wantSubmit(t, s, 0, api.OK, ask(-1))
	wantTick(t, s, 0, [4]int{6, 0, 0, 1})
	wantTick(t, s, 4, [4]int{7, 0, 4, 0})
	wantTick(t, s, 0, [4]int{8, 1, 0, 0}, -1)
	wantFront(t, s, 9, 9, 9, 9, 9, 9, 5, 9)
}

func TestP9Budget(t *testing.T) {
	for _, budget := range []int{-1, -2, -1 << 32, math.MinInt} {
		s := screen(t, small(), 1)
		wantSubmit(t, s, 0, api.OK, create(0), pixels(5, 6), ask(1))
		r, e := s.Tick(budget)
		if r.Tick != 0 || r.Flip != 0 || r.Painted != 0 || len(r.Admitted) != 0 || len(r.Fired) != 0 || e != api.ErrInvalid {
			t.Errorf("P9: Tick(%d) = %+v, %d", budget, r, e)
		}
		wantTick(t, s, 0, [4]int{1, 0, 0, 1})
	}
	for _, c := range []struct{ budget, painted int }{{0, 0}, {1, 1}, {5, 5}, {6, 6}, {7, 6}, {1 << 32, 6}, {math.MaxInt, 6}} {
		s := screen(t, small(), 1)
		wantTick(t, s, c.budget, [4]int{1, 0, 0, 0})
		wantSubmit(t, s, 0, api.OK, create(0), filled(0, 3, 2, 7))
		wantTick(t, s, c.budget, [4]int{2, 0, c.painted, 1})
		if c.painted < 6 {
			wantTick(t, s, 6-c.painted, [4]int{3, 0, 6 - c.painted, 0})
			wantTick(t, s, c.budget, [4]int{4, 1, 0, 0})
		} else {
			wantTick(t, s, c.budget, [4]int{3, 1, 0, 0})
		}
		wantFront(t, s, 7, 7, 7, 9, 7, 7, 7, 9)
	}
}

// TestP9Idle: without a transaction and without damage there is no frame, and no flip.
func TestP9Idle(t *testing.T) {
	s := screen(t, small(), 0)
	for n := 1; n <= 5; n++ {
		wantTick(t, s, 9, [4]int{n, 0, 0, 0})
	}
	wantConnected(t, s, 0)
	wantTick(t, s, 9, [4]int{6, 0, 0, 0})
	wantSubmit(t, s, 0, api.OK, create(0))
	wantTick(t, s, 9, [4]int{7, 0, 0, 1})
	wantTick(t, s, 9, [4]int{8, 1, 0, 0})
	wantTick(t, s, 9, [4]int{9, 0, 0, 0})
	wantFront(t, s, 9, 9, 9, 9, 9, 9, 9, 9)
}

// TestP9Buffers: which buffer a frame is painted into shows in how much must be painted: all that was damaged since the frame before the last two.
func TestP9Buffers(t *testing.T) {
	s := line(t, 16)
	wantSubmit(t, s, 0, api.OK, create(0), createAt(1, 2, 0), createAt(2, 8, 0), createAt(3, 14, 0))
	wantTick(t, s, 100, [4]int{1, 0, 0, 1})
	for i, c := range []struct {
		op      api.Op
		painted int
	}{
		{filled(0, 1, 1, 2), 1},
		{filled(3, 2, 1, 3), 2 + 1}, // in a buffer that never had a frame
		{filled(1, 4, 1, 4), 4 + 2 + 1},
		{filled(2, 6, 1, 5), 6 + 4 + 2},
		{filled(3, 2, 1, 6), 2 + 6 + 4},
		{filled(0, 1, 1, 7), 1 + 2 + 6},
		{ask(1), 1 + 2},
		{ask(2), 1},
		{ask(3), 0},
		{filled(2, 1, 1, 8), 6},
	} {
		wantSubmit(t, s, 0, api.OK, c.op)
		if r, _ := s.Tick(100); r.Painted != c.painted || r.Flip != 1 {
			t.Fatalf("P9: frame %d: %+v, want %d painted", i, r, c.painted)
		}
	}
	s.Tick(0)
	wantFront(t, s, 7, 1, 4, 4, 4, 4, 1, 1, 8, 1, 1, 1, 1, 1, 6, 6)
}

// layout: 0 and 1 have buffers and lie over one another in a pixel, 2 has none, and none of them lies beyond the output; 0 is the lowest.
func layout(t *testing.T) *panes.Screen {
	t.Helper()
	c := great()
	c.W, c.H = 12, 10
	s := screen(t, c, 1)
	wantSubmit(t, s, 0, api.OK, createAt(0, 2, 3), filled(0, 3, 2, 20), createAt(1, 4, 4), filled(1, 2, 2, 30), createAt(2, 8, 8))
	settle(t, s)
	return s
}

func TestP9Damage(t *testing.T) {
	for _, c := range []struct {
		name    string
		ops     []api.Op
		painted int
	}{
		{"Ask", []api.Op{ask(1)}, 0},
		{"Create", []api.Op{createAt(3, 2, 3)}, 0},
		{"Create and Attach", []api.Op{createAt(3, 2, 3), filled(3, 5, 1, 6)}, 5},
		{"Create, Attach and Destroy", []api.Op{createAt(3, 2, 3), filled(3, 5, 1, 6), destroy(3)}, 5},
		{"the first Attach", []api.Op{filled(2, 3, 1, 6)}, 3},
		{"the first Attach, partly beyond the right side", []api.Op{filled(2, 8, 1, 6)}, 4},
		{"the first Attach, partly beyond the bottom", []api.Op{filled(2, 1, 8, 6)}, 2},
		{"Attach of the same", []api.Op{filled(0, 3, 2, 20)}, 6},
		{"Attach of a smaller one", []api.Op{filled(0, 1, 1, 20)}, 6},
		{"Attach of a greater one", []api.Op{filled(0, 4, 3, 20)}, 12},
		{"Attach of one wider and lower", []api.Op{filled(0, 5, 1, 20)}, 8},
		{"Attach of what is clear", []api.Op{attach(1, 2, 2)}, 4},
		{"Attach below another", []api.Op{filled(0, 3, 2, 21)}, 6},
		{"Move to its place", []api.Op{move(0, 2, 3)}, 0},
		{"Move aside", []api.Op{move(0, 3, 3)}, 8},
		{"Move down", []api.Op{move(0, 2, 4)}, 9},
		{"Move both ways", []api.Op{move(0, 3, 4)}, 10},
		{"Move away", []api.Op{move(0, 12, 3)}, 6},
		{"Move to the left side", []api.Op{move(0, -2, 3)}, 8},
		{"Move to the top", []api.Op{move(0, 2, -1)}, 9},
		{"Move far away", []api.Op{move(0, -100, 100)}, 6},
		{"Move away and back", []api.Op{move(0, 7, 3), move(0, 2, 3)}, 12},
		{"Move of what has no buffer", []api.Op{move(2, 0, 0)}, 0},
		{"Move, then the first Attach", []api.Op{move(2, 0, 0), filled(2, 1, 2, 6)}, 2},
		{"Raise of the highest", []api.Op{raise(2)}, 0},
		{"Raise over what has no buffer", []api.Op{raise(1)}, 4},
		{"Raise of the lowest", []api.Op{raise(0)}, 6},
		{"Raise twice", []api.Op{raise(0), raise(1)}, 9},
		{"Lower of the lowest", []api.Op{lower(0)}, 0},
		{"Lower", []api.Op{lower(1)}, 4},
		{"Lower of what has no buffer", []api.Op{lower(2)}, 0},
		{"Lower below what has no buffer", []api.Op{lower(2), lower(0)}, 6},
		{"Raise and Lower", []api.Op{raise(0), lower(0)}, 6},
		{"Slide", []api.Op{slide(0, 1, 1, 9)}, 0},
		{"Destroy", []api.Op{destroy(0)}, 6},
		{"Destroy of what has no buffer", []api.Op{destroy(2)}, 0},
		{"Destroy of all", []api.Op{destroy(0), destroy(1), destroy(2)}, 9},
		{"Destroy and Create", []api.Op{destroy(1), createAt(1, 4, 4)}, 4},
	} {
		s := layout(t)
		wantSubmit(t, s, 0, api.OK, c.ops...)
		if r, e := s.Tick(1000); e != api.OK || r.Flip != 0 || r.Painted != c.painted {
			t.Errorf("P9: %s: Tick = %+v, %d, want %d painted", c.name, r, e, c.painted)
		}
	}
}

// TestP9AllDamage: what several frames were held up for is painted once.
func TestP9AllDamage(t *testing.T) {
	s := layout(t)
	wantSubmit(t, s, 0, api.OK, move(0, 3, 3))
	wantTick(t, s, 0, [4]int{7, 0, 0, 1})
	for n := range 5 {
		wantSubmit(t, s, 0, api.OK, move(0, 2+n%2, 3))
		wantTick(t, s, 0, [4]int{8 + n, 0, 0, 1})
	}
	wantTick(t, s, 7, [4]int{13, 0, 7, 0})
	wantTick(t, s, 7, [4]int{14, 0, 1, 0})
	wantTick(t, s, 7, [4]int{15, 1, 7, 0})
	wantTick(t, s, 7, [4]int{16, 0, 1, 0})
	wantTick(t, s, 7, [4]int{17, 1, 0, 0})
	wantTick(t, s, 7, [4]int{18, 0, 0, 0})
}

// TestP9Picture: the highest surface that is not clear, wherever it lies.
func TestP9Picture(t *testing.T) {
	for _, c := range []struct {
		name string
		ops  []api.Op
		want []int
	}{
		{"as made", []api.Op{ask(1)}, []int{5, 7, 7, 6}},
		{"the lowest raised", []api.Op{raise(0)}, []int{5, 5, 5, 6}},
		{"the highest lowered", []api.Op{lower(2)}, []int{5, 5, 6, 6}},
		{"the middle raised", []api.Op{raise(1)}, []int{5, 7, 6, 6}},
		{"the middle lowered", []api.Op{lower(1)}, []int{5, 7, 7, 6}},
		{"the middle raised, then the lowest", []api.Op{raise(1), raise(0)}, []int{5, 5, 5, 6}},
		{"clear in part", []api.Op{{Kind: api.Attach, Surface: 2, W: 2, H: 1, Pixels: []int{0, 8}}}, []int{5, 5, 8, 6}},
		{"clear", []api.Op{attach(2, 2, 1), attach(1, 2, 1)}, []int{5, 5, 5, 1}},
		{"two rows", []api.Op{move(2, 1, -1), {Kind: api.Attach, Surface: 2, W: 2, H: 2, Pixels: []int{2, 3, 4294967295, 0}}}, []int{5, 4294967295, 6, 6}},
		{"beyond the left side", []api.Op{move(2, -1, 0), {Kind: api.Attach, Surface: 2, W: 2, H: 1, Pixels: []int{2, 3}}}, []int{3, 5, 6, 6}},
		{"beyond the right side", []api.Op{move(2, 3, 0), {Kind: api.Attach, Surface: 2, W: 2, H: 1, Pixels: []int{2, 3}}}, []int{5, 5, 6, 2}},
		{"a row too low", []api.Op{move(2, 0, 1)}, []int{5, 5, 6, 6}},
		{"one made anew is the highest", []api.Op{destroy(0), createAt(0, 1, 0), filled(0, 2, 1, 4)}, []int{1, 4, 4, 6}},
		{"one without a buffer", []api.Op{createAt(3, 0, 0)}, []int{5, 7, 7, 6}},
		{"none", []api.Op{destroy(1), destroy(0), destroy(2)}, []int{1, 1, 1, 1}},
	} {
		s := line(t, 4)
		wantSubmit(t, s, 0, api.OK, create(0), filled(0, 3, 1, 5), createAt(1, 2, 0), filled(1, 2, 1, 6), createAt(2, 1, 0), filled(2, 2, 1, 7))
		wantSubmit(t, s, 0, api.OK, c.ops...)
		wantTick(t, s, 100, [4]int{1, 0, 4, 2})
		wantTick(t, s, 0, [4]int{2, 1, 0, 0}, marksOf(c.ops)...)
		if got := s.Front(); !slices.Equal(got, c.want) {
			t.Errorf("P10: %s: Front() = %v, want %v", c.name, got, c.want)
		}
	}
}

func marksOf(ops []api.Op) []int {
	var marks []int
	for _, op := range ops {
		if op.Kind == api.Ask {
			marks = append(marks, op.Mark)
		}
	}
	return marks
}

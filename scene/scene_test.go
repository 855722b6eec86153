package scene

import (
	"slices"
	"testing"

	"panes/api"
)

func create(n, x, y int) api.Op { return api.Op{Kind: api.Create, Surface: n, X: x, Y: y} }

func attach(n, w, h int, pixels ...int) api.Op {
	return api.Op{Kind: api.Attach, Surface: n, W: w, H: h, Pixels: pixels}
}

func op(kind, n, x, y, w int) api.Op { return api.Op{Kind: kind, Surface: n, X: x, Y: y, W: w} }

// covering leaves out rectangles that cover nothing.
func covering(l []api.Rect) []api.Rect {
	return slices.DeleteFunc(l, func(r api.Rect) bool { return r.W == 0 || r.H == 0 })
}

func wantDamage(t *testing.T, what string, got []api.Rect, want ...api.Rect) {
	t.Helper()
	if got = covering(got); !slices.Equal(got, want) {
		t.Errorf("P9: %s damages %v, want %v", what, got, want)
	}
}

func wantDo(t *testing.T, s *Scene, client int, o api.Op, want ...api.Rect) {
	t.Helper()
	what := []string{"", "Create", "Destroy", "Attach", "Move", "Raise", "Lower", "Slide"}[o.Kind]
	wantDamage(t, what, s.Do(client, o), want...)
}

// wantRow holds the pixels of row 0, from column -1 on, against what is wanted.
func wantRow(t *testing.T, s *Scene, want ...int) {
	t.Helper()
	var got []int
	for i := range want {
		got = append(got, s.At(i-1, 0))
	}
	if !slices.Equal(got, want) {
		t.Errorf("P10: row 0 is %v, want %v", got, want)
	}
}

func rect(x, y, w, h int) api.Rect { return api.Rect{X: x, Y: y, W: w, H: h} }

func TestP9Damage(t *testing.T) {
	s := New(9)
	wantRow(t, s, 9, 9, 9)
	wantDo(t, s, 0, create(0, 1, 0))
	wantDo(t, s, 0, op(api.Move, 0, 2, 0, 0))
	wantDo(t, s, 0, attach(0, 2, 1, 5, 6), rect(2, 0, 2, 1))
	wantRow(t, s, 9, 9, 9, 5, 6, 9)
	wantDo(t, s, 0, attach(0, 1, 2, 7, 8), rect(2, 0, 2, 1), rect(2, 0, 1, 2))
	wantDo(t, s, 0, attach(0, 1, 2, 0, 8), rect(2, 0, 1, 2))
	wantRow(t, s, 9, 9, 9, 9, 9, 9)
	wantDo(t, s, 0, op(api.Move, 0, 2, 0, 0))
	wantDo(t, s, 0, op(api.Move, 0, 2, -1, 0), rect(2, 0, 1, 2), rect(2, -1, 1, 2))
	wantRow(t, s, 9, 9, 9, 8, 9, 9)
	wantDo(t, s, 0, op(api.Raise, 0, 0, 0, 0))
	wantDo(t, s, 0, op(api.Lower, 0, 0, 0, 0))
	wantDo(t, s, 1, create(0, 0, 0))
	wantDo(t, s, 0, op(api.Raise, 0, 0, 0, 0), rect(2, -1, 1, 2))
	wantDo(t, s, 1, op(api.Raise, 0, 0, 0, 0))
	wantDo(t, s, 0, op(api.Slide, 0, 1, 1, 2))
	wantDo(t, s, 0, op(api.Destroy, 0, 0, 0, 0), rect(2, -1, 1, 2))
	wantDo(t, s, 1, op(api.Destroy, 0, 0, 0, 0))
	wantRow(t, s, 9, 9, 9, 9)
	if len(s.surfaces) != 0 || len(s.order) != 0 {
		t.Errorf("P9: %v is left behind", s)
	}
}

// TestP9Order: one order for the surfaces of all clients, of the same number too.
func TestP9Order(t *testing.T) {
	s := New(9)
	for client := range 3 {
		s.Do(client, create(0, 0, 0))
		s.Do(client, attach(0, 1, 1, client+1))
	}
	for _, c := range []struct {
		kind, client int
		want         []int // clients, from the lowest on
	}{
		{api.Raise, 2, []int{0, 1, 2}},
		{api.Raise, 0, []int{1, 2, 0}},
		{api.Raise, 2, []int{1, 0, 2}},
		{api.Lower, 1, []int{1, 0, 2}},
		{api.Lower, 0, []int{0, 1, 2}},
		{api.Lower, 2, []int{2, 0, 1}},
	} {
		s.Do(c.client, op(c.kind, 0, 0, 0, 0))
		var got []int
		for _, k := range s.order {
			got = append(got, k.client)
		}
		if !slices.Equal(got, c.want) || s.At(0, 0) != c.want[2]+1 {
			t.Errorf("P9: the order is %v, with %d on top, want %v", got, s.At(0, 0), c.want)
		}
	}
}

// TestP9Slide: those that slide go on, the lowest first, and each as many ticks as it should.
func TestP9Slide(t *testing.T) {
	s := New(9)
	s.Do(0, create(0, 0, 0))
	s.Do(0, attach(0, 1, 1, 5))
	s.Do(1, create(3, 0, 2))
	s.Do(1, attach(3, 2, 1, 6, 6))
	s.Do(0, create(1, 0, 0))
	wantDamage(t, "no slide", s.Slide())
	s.Do(1, op(api.Slide, 3, -1, 0, 1))
	s.Do(0, op(api.Slide, 0, 1, 4, 2))
	s.Do(0, op(api.Slide, 1, 1, 1, 2))
	wantDamage(t, "Slide", s.Slide(), rect(0, 0, 1, 1), rect(1, 4, 1, 1), rect(0, 2, 2, 1), rect(-1, 2, 2, 1))
	wantDamage(t, "Slide", s.Slide(), rect(1, 4, 1, 1), rect(2, 8, 1, 1))
	wantDamage(t, "Slide", s.Slide())
	wantDo(t, s, 0, attach(1, 1, 1, 7), rect(2, 2, 1, 1))
	s.Do(0, op(api.Slide, 0, 0, 0, 2))
	wantDamage(t, "a slide to nowhere", s.Slide())
	s.Do(0, op(api.Slide, 0, 1, 0, 2))
	s.Do(0, op(api.Move, 0, 2, 8, 0))
	wantDamage(t, "a slide that Move ended", s.Slide())
}

// TestP7Leave: a client leaves nothing behind; what it had is damaged, the lowest first.
func TestP7Leave(t *testing.T) {
	s := New(9)
	for n := range 3 {
		for client := range 2 {
			s.Do(client, create(n, n, client))
			s.Do(client, attach(n, 1, 1, 1+n))
		}
	}
	s.Do(1, create(3, 0, 0))
	s.Do(1, op(api.Lower, 2, 0, 0, 0))
	wantDamage(t, "Leave", s.Leave(1), rect(2, 1, 1, 1), rect(0, 1, 1, 1), rect(1, 1, 1, 1))
	if len(s.surfaces) != 3 || !slices.Equal(s.order, []key{{0, 0}, {0, 1}, {0, 2}}) {
		t.Errorf("P7: left are %v, %v", s.surfaces, s.order)
	}
	wantDamage(t, "Leave of nothing", s.Leave(1))
	wantRow(t, s, 9, 1, 2, 3, 9)
	s.Leave(0)
	if len(s.surfaces) != 0 || len(s.order) != 0 {
		t.Errorf("P7: left are %v, %v", s.surfaces, s.order)
	}
}

package region

import (
	"slices"
	"testing"

	"panes/api"
)

func TestCut(t *testing.T) {
	p := api.Rect{X: 1, Y: 2, W: 4, H: 3}
	for _, c := range []struct{ q, want api.Rect }{
		{p, p},
		{api.Rect{X: 0, Y: 0, W: 9, H: 9}, p},
		{api.Rect{X: 3, Y: 4, W: 9, H: 9}, api.Rect{X: 3, Y: 4, W: 2, H: 1}},
		{api.Rect{X: -5, Y: -5, W: 7, H: 8}, api.Rect{X: 1, Y: 2, W: 1, H: 1}},
		{api.Rect{X: 5, Y: 2, W: 4, H: 3}, api.Rect{X: 5, Y: 2, W: 0, H: 3}},
		{api.Rect{X: 1, Y: 9, W: 4, H: 3}, api.Rect{X: 1, Y: 9, W: 4, H: 0}},
	} {
		if got := Cut(p, c.q); got != c.want {
			t.Errorf("Cut(%v, %v) = %v, want %v", p, c.q, got, c.want)
		}
		if got := Cut(c.q, p); got != c.want {
			t.Errorf("Cut(%v, %v) = %v, want %v", c.q, p, got, c.want)
		}
	}
}

func TestAllowed(t *testing.T) {
	const m = api.MaxPlace
	for _, c := range []struct {
		l    []api.Rect
		want bool
	}{
		{nil, true}, {make([]api.Rect, api.MaxRects), true}, {make([]api.Rect, api.MaxRects+1), false},
		{[]api.Rect{{X: m, Y: -m, W: m, H: m}}, true}, {[]api.Rect{{X: -m, Y: m, W: 0, H: 0}}, true},
		{[]api.Rect{{X: m + 1}}, false}, {[]api.Rect{{X: -m - 1}}, false}, {[]api.Rect{{Y: m + 1}}, false}, {[]api.Rect{{Y: -m - 1}}, false},
		{[]api.Rect{{W: m + 1}}, false}, {[]api.Rect{{W: -1}}, false}, {[]api.Rect{{H: m + 1}}, false}, {[]api.Rect{{}, {H: -1}}, false},
	} {
		if got := Allowed(c.l); got != c.want {
			t.Errorf("Allowed(%v) = %v, want %v", c.l, got, c.want)
		}
	}
}

// TestLongLists: what came out goes in again, however long it is.
func TestLongLists(t *testing.T) {
	var dots []api.Rect
	for i := range 400 {
		dots = append(dots, api.Rect{X: 2 * (i % 20), Y: 2 * (i / 20), W: 1, H: 1})
	}
	all := []api.Rect{{X: 0, Y: 0, W: 39, H: 39}}
	if got := Union(dots, nil); !slices.Equal(got, dots) {
		t.Errorf("Union of %d dots: %d rectangles", len(dots), len(got))
	}
	rest := Subtract(all, dots)
	if got := Intersect(rest, dots); len(got) != 0 {
		t.Errorf("what was taken away is there: %v", got)
	}
	if got := Union(rest, dots); !slices.Equal(got, all) {
		t.Errorf("the whole is not whole again: %v", got)
	}
	if got := Area(rest); got != 39*39-len(dots) {
		t.Errorf("Area = %d, want %d", got, 39*39-len(dots))
	}
}

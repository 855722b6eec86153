package frames

import (
	"slices"
	"testing"

	"panes/api"
)

func one(pixel int) func(x, y int) int { return func(x, y int) int { return pixel } }

func mark(client, n int) api.Fired { return api.Fired{Client: client, Mark: n} }

func paint(f *Frames, pixels int) int {
	b := NewBudget(pixels)
	f.Paint(b)
	return b.End()
}

func wantFront(t *testing.T, f *Frames, want ...int) {
	t.Helper()
	if got := f.Front(); !slices.Equal(got, want) {
		t.Errorf("P10: Front() = %v, want %v", got, want)
	}
}

func wantFlip(t *testing.T, f *Frames, want int, marks ...api.Fired) {
	t.Helper()
	if got, fired := f.Flip(); got != want || !slices.Equal(fired, marks) {
		t.Errorf("P9: Flip() = %d, %v, want %d, %v", got, fired, want, marks)
	}
}

func done(b *Budget) bool {
	select {
	case <-b.done:
		return true
	default:
		return false
	}
}

// TestBudget: the channel is closed when the budget is used up, and not before; and in the end however much is left.
func TestBudget(t *testing.T) {
	for _, pixels := range []int{0, 1, 2, 5} {
		for spent := range pixels + 1 {
			b := NewBudget(pixels)
			for n := range spent {
				if done(b) {
					t.Errorf("a budget of %d is used up after %d", pixels, n)
				}
				b.spend()
			}
			if done(b) != (spent == pixels) {
				t.Errorf("a budget of %d, after %d: used up %v", pixels, spent, done(b))
			}
			for range 2 {
				if got := b.End(); got != spent || !done(b) {
					t.Errorf("a budget of %d, after %d: End() = %d, used up %v", pixels, spent, got, done(b))
				}
			}
		}
	}
}

// TestP9Buffers: buffer 1 first, then 0, then 2, which has had none; and from then on the one of which the frame was begun longer ago.
func TestP9Buffers(t *testing.T) {
	f := New(1, 1, 9)
	for i, want := range []int{1, 0, 2, 1, 0, 2, 1} {
		f.Request()
		f.Begin(i+1, one(5))
		if f.frame.buffer != want {
			t.Fatalf("P9: frame %d is painted into buffer %d, want %d", i, f.frame.buffer, want)
		}
		wantFlip(t, f, 1)
		if f.front != want {
			t.Fatalf("P9: the front is %d, want %d", f.front, want)
		}
	}
}

// TestP9Due: a frame is begun if there is a reason for one and none is there.
func TestP9Due(t *testing.T) {
	f := New(2, 2, 9)
	f.Begin(1, one(5))
	f.Damage([]api.Rect{{X: 2, W: 3, H: 3}, {X: -3, Y: 0, W: 3, H: 3}, {Y: 2, W: 1, H: 1}, {Y: -8, W: 8, H: 8}, {}, {X: 1, Y: 1, W: 1}, {H: 2}})
	f.Ask(mark(0, 1))
	f.Begin(2, one(5))
	if f.frame != nil {
		t.Fatal("P9: a frame without a reason")
	}
	f.Damage([]api.Rect{{X: -7, Y: -7, W: 8, H: 8}})
	f.Begin(3, one(5))
	f.Ask(mark(0, 2))
	f.Begin(4, one(6))
	if n := paint(f, 9); n != 1 || f.due {
		t.Fatalf("P9: %d painted, want 1; another frame is due: %v", n, f.due)
	}
	wantFlip(t, f, 1, mark(0, 1))
	wantFront(t, f, 5, 9, 9, 9)
	f.Begin(5, one(6))
	wantFlip(t, f, 0)
	f.Request()
	f.Begin(6, one(6))
	wantFlip(t, f, 0) // one pixel is stale
	paint(f, 1)
	wantFlip(t, f, 1, mark(0, 2))
	wantFront(t, f, 6, 9, 9, 9)
}

// TestP9Stale: each buffer knows by itself what was damaged since its frame was begun.
func TestP9Stale(t *testing.T) {
	f := New(3, 2, 9)
	f.Damage([]api.Rect{{X: 1, Y: -1, W: 5, H: 2}})
	f.Begin(1, func(x, y int) int { return 10*y + x })
	f.Damage([]api.Rect{{X: 0, Y: 1, W: 1, H: 1}, {X: 1, Y: 0, W: 1, H: 2}})
	for i, want := range [][]int{{1, 2, 3, 4}, {1, 3, 4}, {1, 2, 3, 4}} {
		var got []int
		for at, is := range f.buffers[i].stale {
			if is {
				got = append(got, at)
			}
		}
		if !slices.Equal(got, want) {
			t.Errorf("P9: in buffer %d %v is stale, want %v", i, got, want)
		}
	}
	if n := paint(f, 9); n != 2 {
		t.Errorf("P9: %d painted, want 2", n)
	}
	wantFlip(t, f, 1)
	wantFront(t, f, 9, 1, 2, 9, 9, 9)
}

// TestP11Moment: painting in pieces, while the picture changes and more is damaged.
func TestP11Moment(t *testing.T) {
	f := New(2, 2, 9)
	pixel := 5
	picture := func(x, y int) int { return pixel }
	f.Damage([]api.Rect{{W: 2, H: 2}})
	f.Begin(1, picture)
	for i, want := range []int{0, 1, 2, 1, 0} {
		pixel++
		if n := paint(f, []int{0, 1, 2, 9, 9}[i]); n != want {
			t.Fatalf("P9: %d painted, want %d", n, want)
		}
		f.Damage([]api.Rect{{W: 1, H: 1}})
		wantFront(t, f, 9, 9, 9, 9)
	}
	wantFlip(t, f, 1)
	wantFront(t, f, 5, 5, 5, 5)
	if n := paint(f, 9); n != 0 {
		t.Errorf("P9: %d painted without a frame", n)
	}
}

// TestP7Forget: marks of a client, in a frame or not, are not told.
func TestP7Forget(t *testing.T) {
	f := New(1, 1, 9)
	f.Forget(0)
	f.Request()
	for n := range 6 {
		f.Ask(mark(n%3, n))
	}
	f.Begin(1, one(5))
	f.Request()
	for n := range 6 {
		f.Ask(mark(n%2, n))
	}
	f.Forget(0)
	wantFlip(t, f, 1, mark(1, 1), mark(2, 2), mark(1, 4), mark(2, 5))
	f.Forget(2)
	f.Begin(2, one(5))
	wantFlip(t, f, 1, mark(1, 1), mark(1, 3), mark(1, 5))
}

// TestP2Front: what is told is not what is shown.
func TestP2Front(t *testing.T) {
	f := New(2, 1, 9)
	clear(f.Front())
	wantFront(t, f, 9, 9)
}

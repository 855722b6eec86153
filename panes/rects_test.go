package panes_test

import (
	"math"
	"math/rand"
	"slices"
	"testing"

	"panes/api"
	"panes/panes"
)

type pairCall func(a, b []api.Rect) ([]api.Rect, api.Errno)

// pairCalls are the calls of P4, by name.
func pairCalls() map[string]pairCall {
	return map[string]pairCall{"Union": panes.Union, "Intersect": panes.Intersect, "Subtract": panes.Subtract}
}

// many makes a list of n pixels, no two of which touch.
func many(n int) []api.Rect {
	var l []api.Rect
	for i := range n {
		l = append(l, r(2*(i%8), 2*(i/8), 1, 1))
	}
	return l
}

// lattice makes MaxRects rectangles that cross one another as often as can be.
func lattice(from int) []api.Rect {
	var l []api.Rect
	for i := range api.MaxRects / 2 {
		l = append(l, r(from+4*i, 0, 2, 80), r(0, from+4*i, 80, 2))
	}
	return l
}

func wantList(t *testing.T, what string, got []api.Rect, e api.Errno, want []api.Rect) {
	t.Helper()
	if e != api.OK || !slices.Equal(got, want) {
		t.Errorf("%s = %v, %d; want %v, 0", what, got, e, want)
	}
}

func wantRefused(t *testing.T, what string, got []api.Rect, e api.Errno) {
	t.Helper()
	if e != api.ErrRect || got != nil {
		t.Errorf("%s = %v, %d; want nil, %d", what, got, e, api.ErrRect)
	}
}

func TestP3Canon(t *testing.T) {
	const m = api.MaxPlace
	for _, c := range []struct {
		name    string
		l, want []api.Rect
	}{
		{"no list", nil, nil},
		{"no rectangles", []api.Rect{}, nil},
		{"one", []api.Rect{r(-3, 4, 2, 5)}, []api.Rect{r(-3, 4, 2, 5)}},
		{"the same twice", []api.Rect{r(1, 1, 2, 2), r(1, 1, 2, 2)}, []api.Rect{r(1, 1, 2, 2)}},
		{"two that overlap", []api.Rect{r(0, 0, 2, 2), r(1, 1, 2, 2)}, []api.Rect{r(0, 0, 2, 1), r(0, 1, 3, 1), r(1, 2, 2, 1)}},
		{"one within the other", []api.Rect{r(1, 1, 1, 1), r(0, 0, 3, 3)}, []api.Rect{r(0, 0, 3, 3)}},
		{"a cross", []api.Rect{r(1, 0, 1, 3), r(0, 1, 3, 1)}, []api.Rect{r(1, 0, 1, 1), r(0, 1, 3, 1), r(1, 2, 1, 1)}},
		{"bands that touch, the same columns", []api.Rect{r(0, 1, 1, 1), r(0, 0, 1, 1)}, []api.Rect{r(0, 0, 1, 2)}},
		{"bands that touch, several runs", []api.Rect{r(0, 0, 1, 1), r(3, 0, 1, 1), r(3, 1, 1, 2), r(0, 1, 1, 2)}, []api.Rect{r(0, 0, 1, 3), r(3, 0, 1, 3)}},
		{"bands that touch, one run more", []api.Rect{r(0, 0, 1, 2), r(3, 1, 1, 1)}, []api.Rect{r(0, 0, 1, 1), r(0, 1, 1, 1), r(3, 1, 1, 1)}},
		{"bands that touch, a column more", []api.Rect{r(0, 0, 1, 1), r(0, 1, 2, 1)}, []api.Rect{r(0, 0, 1, 1), r(0, 1, 2, 1)}},
		{"bands that touch at a corner", []api.Rect{r(0, 0, 1, 1), r(1, 1, 1, 1)}, []api.Rect{r(0, 0, 1, 1), r(1, 1, 1, 1)}},
		{"a row between bands", []api.Rect{r(0, 2, 1, 1), r(0, 0, 1, 1)}, []api.Rect{r(0, 0, 1, 1), r(0, 2, 1, 1)}},
		{"runs that touch", []api.Rect{r(2, 0, 1, 1), r(0, 0, 2, 1)}, []api.Rect{r(0, 0, 3, 1)}},
		{"a column between runs", []api.Rect{r(3, 0, 1, 2), r(0, 0, 2, 2)}, []api.Rect{r(0, 0, 2, 2), r(3, 0, 1, 2)}},
		{"a run in a longer one, and one behind", []api.Rect{r(0, 0, 5, 1), r(1, 0, 1, 1), r(4, 0, 2, 1)}, []api.Rect{r(0, 0, 6, 1)}},
		{"by Y and then by X", []api.Rect{r(9, 9, 1, 1), r(5, 0, 1, 1), r(0, 9, 1, 1), r(0, 0, 1, 1)}, []api.Rect{r(0, 0, 1, 1), r(5, 0, 1, 1), r(0, 9, 1, 1), r(9, 9, 1, 1)}},
		{"without width, without height", []api.Rect{r(5, 5, 0, 9), r(5, 5, 9, 0), r(5, 5, 0, 0)}, nil},
		{"one without width beside others", []api.Rect{r(0, 0, 1, 1), r(0, 1, 1, 1), r(5, 5, 0, 9)}, []api.Rect{r(0, 0, 1, 2)}},
		{"one without width between two runs", []api.Rect{r(0, 0, 1, 1), r(1, 0, 0, 1), r(2, 0, 1, 1)}, []api.Rect{r(0, 0, 1, 1), r(2, 0, 1, 1)}},
		{"one without height across a band", []api.Rect{r(0, 0, 2, 4), r(0, 2, 9, 0)}, []api.Rect{r(0, 0, 2, 4)}},
		{"at all bounds", []api.Rect{r(m, m, m, m), r(-m, -m, m, m)}, []api.Rect{r(-m, -m, m, m), r(m, m, m, m)}},
		{"wider than one may be, when joined", []api.Rect{r(0, 7, m, m), r(-m, 7, m, m), r(m, 7, m, m)}, []api.Rect{r(-m, 7, 3*m, m)}},
		{"MaxRects of them", many(api.MaxRects), many(api.MaxRects)},
		{"MaxRects times the same", slices.Repeat([]api.Rect{r(1, 2, 3, 4)}, api.MaxRects), []api.Rect{r(1, 2, 3, 4)}},
	} {
		got, e := panes.Canon(c.l)
		wantList(t, "P3: "+c.name+": Canon", got, e, c.want)
	}
}

func TestP4Pairs(t *testing.T) {
	const m = api.MaxPlace
	square, hole := []api.Rect{r(0, 0, 3, 3)}, []api.Rect{r(1, 1, 1, 1)}
	ring := []api.Rect{r(0, 0, 3, 1), r(0, 1, 1, 1), r(2, 1, 1, 1), r(0, 2, 3, 1)}
	for _, c := range []struct {
		name                           string
		a, b, union, common, remainder []api.Rect
	}{
		{"nothing and nothing", nil, []api.Rect{}, nil, nil, nil},
		{"nothing behind", square, nil, square, nil, square},
		{"nothing ahead", nil, square, square, nil, nil},
		{"a hole", square, hole, square, hole, ring},
		{"of a hole", hole, square, square, hole, nil},
		{"the ring and its hole", ring, hole, square, nil, ring},
		{"beside each other", []api.Rect{r(0, 0, 2, 2)}, []api.Rect{r(2, 0, 1, 2)}, []api.Rect{r(0, 0, 3, 2)}, nil, []api.Rect{r(0, 0, 2, 2)}},
		{"below each other", []api.Rect{r(0, 2, 2, 1)}, []api.Rect{r(0, 0, 2, 2)}, []api.Rect{r(0, 0, 2, 3)}, nil, []api.Rect{r(0, 2, 2, 1)}},
		{"pieces that touch when cut", []api.Rect{r(0, 0, 4, 2)}, []api.Rect{r(1, 0, 1, 1), r(2, 0, 1, 1), r(1, 1, 2, 1)},
			[]api.Rect{r(0, 0, 4, 2)}, []api.Rect{r(1, 0, 2, 2)}, []api.Rect{r(0, 0, 1, 2), r(3, 0, 1, 2)}},
		{"several runs of both", []api.Rect{r(0, 0, 3, 1), r(5, 0, 3, 1)}, []api.Rect{r(-1, 0, 2, 1), r(2, 0, 4, 1), r(7, 0, 9, 1)},
			[]api.Rect{r(-1, 0, 17, 1)}, []api.Rect{r(0, 0, 1, 1), r(2, 0, 1, 1), r(5, 0, 1, 1), r(7, 0, 1, 1)}, []api.Rect{r(1, 0, 1, 1), r(6, 0, 1, 1)}},
		{"without width or height", square, []api.Rect{r(1, 0, 0, 3), r(0, 1, 3, 0)}, square, nil, square},
		{"at all bounds", []api.Rect{r(-m, -m, m, m), r(m, m, m, m)}, []api.Rect{r(m, m, m, m), r(0, -m, m, m)},
			[]api.Rect{r(-m, -m, 2*m, m), r(m, m, m, m)}, []api.Rect{r(m, m, m, m)}, []api.Rect{r(-m, -m, m, m)}},
		{"MaxRects of each", many(api.MaxRects), many(api.MaxRects), many(api.MaxRects), many(api.MaxRects), nil},
	} {
		got, e := panes.Union(c.a, c.b)
		wantList(t, "P4: "+c.name+": Union", got, e, c.union)
		got, e = panes.Intersect(c.a, c.b)
		wantList(t, "P4: "+c.name+": Intersect", got, e, c.common)
		got, e = panes.Subtract(c.a, c.b)
		wantList(t, "P4: "+c.name+": Subtract", got, e, c.remainder)
	}
}

func TestP5Area(t *testing.T) {
	const m = api.MaxPlace
	for _, c := range []struct {
		l    []api.Rect
		want int
	}{
		{nil, 0}, {[]api.Rect{}, 0},
		{[]api.Rect{r(5, 5, 0, 9), r(5, 5, 9, 0)}, 0},
		{[]api.Rect{r(-3, -3, 2, 5)}, 10},
		{[]api.Rect{r(0, 0, 2, 2), r(1, 1, 2, 2)}, 7},
		{[]api.Rect{r(0, 0, 2, 2), r(0, 0, 2, 2)}, 4},
		{[]api.Rect{r(0, 0, 2, 2), r(2, 0, 2, 2), r(0, 2, 4, 1)}, 12},
		{[]api.Rect{r(-m, -m, m, m), r(m, m, m, m), r(0, 0, m, m)}, 3 * m * m},
		{many(api.MaxRects), api.MaxRects},
	} {
		if n, e := panes.Area(c.l); n != c.want || e != api.OK {
			t.Errorf("P5: Area(%v) = %d, %d; want %d, 0", c.l, n, e, c.want)
		}
	}
}

// wrongLists are lists that may not be, each for one reason alone.
func wrongLists() [][]api.Rect {
	const over = api.MaxPlace + 1
	wrong := [][]api.Rect{make([]api.Rect, api.MaxRects+1), many(api.MaxRects + 1), make([]api.Rect, 100000)}
	for _, n := range []int{over, -over, math.MaxInt, math.MinInt, 1 << 32, -1 << 32} {
		wrong = append(wrong, []api.Rect{r(n, 0, 1, 1)}, []api.Rect{r(0, n, 1, 1)}, []api.Rect{r(0, 0, n, 1)}, []api.Rect{r(0, 0, 1, n)})
		// One that covers nothing may not be beyond the bounds either.
		wrong = append(wrong, []api.Rect{r(n, 0, 0, 0)}, []api.Rect{r(0, n, 0, 0)}, []api.Rect{r(0, 0, n, 0)}, []api.Rect{r(0, 0, 0, n)})
	}
	wrong = append(wrong, []api.Rect{r(0, 0, -1, 1)}, []api.Rect{r(0, 0, 1, -1)}, []api.Rect{r(0, 0, -1, 0)})
	// The last of many, and one in the midst.
	return append(wrong, append(many(api.MaxRects-1), r(over, 0, 1, 1)), []api.Rect{r(0, 0, 1, 1), r(0, 0, 1, -1), r(2, 2, 1, 1)})
}

func TestP3ToP5Wrong(t *testing.T) {
	for _, wrong := range wrongLists() {
		got, e := panes.Canon(wrong)
		wantRefused(t, "P3: Canon", got, e)
		if n, e := panes.Area(wrong); n != 0 || e != api.ErrRect {
			t.Errorf("P5: Area(%v) = %d, %d; want 0, %d", wrong, n, e, api.ErrRect)
		}
		for name, call := range pairCalls() {
			for _, right := range [][]api.Rect{nil, {r(0, 0, 3, 3)}, many(api.MaxRects)} {
				got, e = call(wrong, right)
				wantRefused(t, "P4: wrong ahead: "+name, got, e)
				got, e = call(right, wrong)
				wantRefused(t, "P4: wrong behind: "+name, got, e)
			}
			got, e = call(wrong, wrong)
			wantRefused(t, "P4: both wrong: "+name, got, e)
		}
		if t.Failed() {
			t.Fatalf("the wrong list begins with %v, and is %d long", wrong[:min(3, len(wrong))], len(wrong))
		}
	}
}

// TestP3ToP5Bounds: what is just within every bound is taken.
func TestP3ToP5Bounds(t *testing.T) {
	const m = api.MaxPlace
	for _, one := range []api.Rect{r(m, 0, 1, 1), r(-m, 0, 1, 1), r(0, m, 1, 1), r(0, -m, 1, 1), r(0, 0, m, 1), r(0, 0, 1, m), r(m, m, m, m), r(-m, -m, 1, 1)} {
		l := []api.Rect{one}
		got, e := panes.Canon(l)
		wantList(t, "P3: Canon", got, e, l)
		if n, e := panes.Area(l); n != one.W*one.H || e != api.OK {
			t.Errorf("P5: Area(%v) = %d, %d", l, n, e)
		}
		got, e = panes.Union(nil, l)
		wantList(t, "P4: Union", got, e, l)
		got, e = panes.Intersect(l, l)
		wantList(t, "P4: Intersect", got, e, l)
		got, e = panes.Subtract(l, l)
		wantList(t, "P4: Subtract", got, e, nil)
	}
}

// TestP3ToP5Model holds every call against the model, and so the order and the cut of every list.
func TestP3ToP5Model(t *testing.T) {
	rnd := rand.New(rand.NewSource(7))
	for i := range 1500 {
		most := 4
		if i%10 == 0 {
			most = api.MaxRects
		}
		a, b := someRects(rnd, most), someRects(rnd, most)
		inA := func(x, y int) bool { return covers(a, x, y) }
		inB := func(x, y int) bool { return covers(b, x, y) }
		got, e := panes.Canon(a)
		wantList(t, "P3: Canon", got, e, rightList(inA))
		got, e = panes.Union(a, b)
		wantList(t, "P4: Union", got, e, rightList(func(x, y int) bool { return inA(x, y) || inB(x, y) }))
		got, e = panes.Intersect(a, b)
		wantList(t, "P4: Intersect", got, e, rightList(func(x, y int) bool { return inA(x, y) && inB(x, y) }))
		got, e = panes.Subtract(a, b)
		wantList(t, "P4: Subtract", got, e, rightList(func(x, y int) bool { return inA(x, y) && !inB(x, y) }))
		if n, e := panes.Area(a); n != count(inA) || e != api.OK {
			t.Errorf("P5: Area = %d, %d; want %d, 0", n, e, count(inA))
		}
		if t.Failed() {
			t.Fatalf("the lists: %v and %v", a, b)
		}
	}
}

// TestP1Lattice: the calls end soon on the lists with the most crossings.
func TestP1Lattice(t *testing.T) {
	a, b := lattice(0), lattice(1)
	in := func(n, from int) bool { return n >= from && (n-from)%4 < 2 }
	areaA, areaBoth := 0, 0
	for x := range 80 {
		for y := range 80 {
			p, q := in(x, 0) || in(y, 0), in(x, 1) || in(y, 1)
			if p {
				areaA++
			}
			if p && q {
				areaBoth++
			}
		}
	}
	if n, e := panes.Area(a); n != areaA || e != api.OK {
		t.Errorf("P5: Area = %d, %d; want %d, 0", n, e, areaA)
	}
	common, e := panes.Intersect(a, b)
	n := 0
	for _, one := range common {
		n += one.W * one.H
	}
	if n != areaBoth || e != api.OK {
		t.Errorf("P4: Intersect covers %d, %d; want %d, 0", n, e, areaBoth)
	}
}

// TestP2Order: the answer hangs on what a list covers, not on the order in it, nor on its spare room, nor on what was asked before.
func TestP2Order(t *testing.T) {
	rnd := rand.New(rand.NewSource(3))
	for range 200 {
		a := someRects(rnd, 8)
		shuffled := make([]api.Rect, len(a), len(a)+rnd.Intn(9))
		copy(shuffled, a)
		rnd.Shuffle(len(a), func(i, j int) { shuffled[i], shuffled[j] = shuffled[j], shuffled[i] })
		want, _ := panes.Canon(a)
		got, e := panes.Canon(shuffled)
		wantList(t, "P2: Canon", got, e, want)
		for name, call := range pairCalls() {
			want, _ = call(a, many(9))
			got, e = call(shuffled, many(9))
			wantList(t, "P2: "+name, got, e, want)
		}
	}
}

// withRoom makes a list whose spare room is marked, and tells the room as well.
func withRoom(l []api.Rect) (list, whole []api.Rect) {
	whole = append(slices.Clone(l), slices.Repeat([]api.Rect{r(77, 77, 7, 7)}, 200)...)
	return whole[:len(l)], whole
}

// scribble writes over a list and its spare room.
func scribble[T any](l []T, with T) {
	l = l[:cap(l)]
	for i := range l {
		l[i] = with
	}
}

func TestP2Memory(t *testing.T) {
	first := []api.Rect{r(4, 4, 2, 2), r(0, 0, 2, 2), r(1, 1, 2, 2), r(3, 0, 0, 5)}
	second := []api.Rect{r(5, 3, 3, 3), r(0, 1, 9, 1), r(0, 0, 1, 1)}
	calls := pairCalls()
	calls["Canon"] = func(a, b []api.Rect) ([]api.Rect, api.Errno) { return panes.Canon(a) }
	calls["Area"] = func(a, b []api.Rect) ([]api.Rect, api.Errno) {
		_, e := panes.Area(a)
		return nil, e
	}
	for name, call := range calls {
		a, wholeA := withRoom(first)
		b, wholeB := withRoom(second)
		keptA, keptB := slices.Clone(wholeA), slices.Clone(wholeB)
		got, _ := call(a, b)
		want := slices.Clone(got)
		again, _ := call(a, b)
		scribble(again, r(-9, -9, 9, 9))
		if !slices.Equal(got, want) {
			t.Errorf("P2: %s: two answers share memory", name)
		}
		scribble(got, r(-9, -9, 9, 9))
		if !slices.Equal(wholeA, keptA) || !slices.Equal(wholeB, keptB) {
			t.Errorf("P2: %s: a list that was handed in, or its spare room, is written into or shared", name)
		}
		last, _ := call(a, b)
		if !slices.Equal(last, want) {
			t.Errorf("P2: %s: an answer hangs on an earlier one: %v, want %v", name, last, want)
		}
		scribble(wholeA, r(-9, -9, 9, 9))
		scribble(wholeB, r(-9, -9, 9, 9))
		if !slices.Equal(last, want) {
			t.Errorf("P2: %s: an answer shares memory with what was handed in", name)
		}
	}
}

// TestP2OneArray: lists that are right already, and lists that are pieces of one array, come out as new memory too.
func TestP2OneArray(t *testing.T) {
	array := many(12)
	kept := slices.Clone(array)
	for name, call := range pairCalls() {
		for _, c := range []struct{ a, b []api.Rect }{{array, nil}, {nil, array}, {array, array}, {array[:6], array[6:]}, {array[2:9], array[4:]}} {
			got, e := call(c.a, c.b)
			if e != api.OK {
				t.Errorf("P2: %s(%v, %v): %d", name, c.a, c.b, e)
			}
			scribble(got, r(-9, -9, 9, 9))
			if !slices.Equal(array, kept) {
				t.Fatalf("P2: %s(%v, %v) shares memory with what was handed in", name, c.a, c.b)
			}
		}
	}
}

package panes_test

import (
	"math"
	"math/rand"
	"reflect"
	"slices"
	"testing"

	"panes/api"
	"panes/panes"
)

func create(n int) api.Op { return api.Op{Kind: api.Create, Surface: n} }

func destroy(n int) api.Op { return api.Op{Kind: api.Destroy, Surface: n} }

func ask(mark int) api.Op { return api.Op{Kind: api.Ask, Mark: mark} }

func attach(n, w, h int) api.Op {
	return api.Op{Kind: api.Attach, Surface: n, W: w, H: h, Pixels: make([]int, w*h)}
}

// pixels makes an Attach of surface 0, a row of these pixels.
func pixels(p ...int) api.Op {
	return api.Op{Kind: api.Attach, W: len(p), H: 1, Pixels: p}
}

func wantSubmit(t *testing.T, s *panes.Screen, client int, want api.Errno, ops ...api.Op) {
	t.Helper()
	if e := s.Submit(client, ops); e != want {
		t.Fatalf("P8: Submit(%d, %+v) = %d, want %d", client, ops[:min(len(ops), 25)], e, want)
	}
}

func TestP8Client(t *testing.T) {
	s := screen(t, great(), 3)
	for _, n := range []int{3, 4, 5, -1, -2, math.MinInt, math.MaxInt, 1 << 32, -1 << 32} {
		wantSubmit(t, s, n, api.ErrInvalid, ask(1))
	}
	for n := range 3 {
		wantSubmit(t, s, n, api.OK, ask(1))
	}
}

func TestP8Length(t *testing.T) {
	for _, c := range []struct {
		n    int
		want api.Errno
	}{{0, api.ErrInvalid}, {1, api.OK}, {2, api.OK}, {19, api.OK}, {20, api.OK}, {21, api.ErrInvalid}, {22, api.ErrInvalid}, {100000, api.ErrInvalid}} {
		wantSubmit(t, screen(t, great(), 1), 0, c.want, slices.Repeat([]api.Op{ask(1)}, c.n)...)
	}
	if e := screen(t, great(), 1).Submit(0, []api.Op{}); e != api.ErrInvalid {
		t.Errorf("P8: Submit of no operations: %d", e)
	}
}

// numberBound is one number of a kind of operation, and its bounds.
type numberBound struct {
	name        string
	op          api.Op
	of          func(op *api.Op) *int
	least, most int
}

func opX(op *api.Op) *int { return &op.X }
func opY(op *api.Op) *int { return &op.Y }
func opW(op *api.Op) *int { return &op.W }

func numberBounds() []numberBound {
	slide := api.Op{Kind: api.Slide, W: 1}
	return []numberBound{
		{"X of Create", create(0), opX, -100, 100},
		{"Y of Create", create(0), opY, -100, 100},
		{"X of Move", api.Op{Kind: api.Move}, opX, -100, 100},
		{"Y of Move", api.Op{Kind: api.Move}, opY, -100, 100},
		{"X of Slide", slide, opX, -4, 4},
		{"Y of Slide", slide, opY, -4, 4},
		{"W of Slide", slide, opW, 1, 20},
		{"a pixel", pixels(7, 7, 7), func(op *api.Op) *int { return &op.Pixels[2] }, 0, 4294967295},
		{"another pixel", pixels(7, 7, 7), func(op *api.Op) *int { return &op.Pixels[0] }, 0, 4294967295},
	}
}

// alone makes a transaction of one operation, with a Create ahead of it where it needs one.
func alone(op api.Op) []api.Op {
	if op.Kind == api.Create || op.Kind == api.Ask {
		return []api.Op{op}
	}
	return []api.Op{create(op.Surface), op}
}

func TestP8Numbers(t *testing.T) {
	for _, b := range numberBounds() {
		for _, c := range []struct {
			n    int
			want api.Errno
		}{
			{b.least - 1, api.ErrInvalid}, {b.least, api.OK}, {b.least + 1, api.OK}, {b.most - 1, api.OK}, {b.most, api.OK}, {b.most + 1, api.ErrInvalid},
			{math.MinInt, api.ErrInvalid}, {math.MaxInt, api.ErrInvalid}, {1 << 32, api.ErrInvalid}, {-1 << 32, api.ErrInvalid},
		} {
			op := b.op
			op.Pixels = slices.Clone(op.Pixels)
			*b.of(&op) = c.n
			s := screen(t, great(), 1)
			if e := s.Submit(0, alone(op)); e != c.want {
				t.Errorf("P8: %s %d: %d, want %d", b.name, c.n, e, c.want)
			}
		}
	}
}

func TestP8Kinds(t *testing.T) {
	for kind := -3; kind <= 12; kind++ {
		want := api.ErrInvalid
		if kind >= 1 && kind <= 8 {
			want = api.OK
		}
		op := api.Op{Kind: kind, W: 1, H: 1, Pixels: []int{1}}
		wantSubmit(t, screen(t, great(), 1), 0, want, alone(op)...)
	}
	for _, kind := range []int{math.MinInt, math.MaxInt, 1<<32 + api.Ask, 1<<8 + api.Ask, -api.Ask} {
		wantSubmit(t, screen(t, great(), 1), 0, api.ErrInvalid, api.Op{Kind: kind})
		wantSubmit(t, screen(t, great(), 1), 0, api.ErrInvalid, create(0), api.Op{Kind: kind})
	}
}

func TestP8Buffer(t *testing.T) {
	for w := -1; w <= 9; w++ {
		for h := -1; h <= 9; h++ {
			want := api.ErrInvalid
			if w >= 1 && w <= 8 && h >= 1 && h <= 8 {
				want = api.OK
			}
			op := api.Op{Kind: api.Attach, W: w, H: h, Pixels: make([]int, max(0, w*h))}
			wantSubmit(t, screen(t, great(), 1), 0, want, create(0), op)
			for _, n := range []int{w*h - 1, w*h + 1, 0, 100} {
				op.Pixels = make([]int, max(0, n))
				wantSubmit(t, screen(t, great(), 1), 0, api.ErrInvalid, create(0), op)
			}
			op.Pixels = nil
			wantSubmit(t, screen(t, great(), 1), 0, api.ErrInvalid, create(0), op)
		}
	}
	// Widths and heights of which the product wraps round to the length of the list.
	for _, c := range []struct{ w, h, n int }{{1 << 62, 4, 0}, {1 << 32, 1 << 32, 0}, {math.MinInt, 1, 1}, {1, math.MaxInt, 1}, {1<<32 + 1, 1 << 32, 1}, {math.MinInt, math.MinInt, 0}, {-1, -1, 1}, {-2, -2, 4}, {1 << 62, 1, 1000000}} {
		op := api.Op{Kind: api.Attach, W: c.w, H: c.h, Pixels: make([]int, c.n)}
		wantSubmit(t, screen(t, great(), 1), 0, api.ErrInvalid, create(0), op)
	}
}

// TestP8NotLookedAt: what a kind has not may be anything.
func TestP8NotLookedAt(t *testing.T) {
	for _, n := range []int{math.MinInt, -1, 1 << 32, math.MaxInt} {
		junk := []int{n, n}
		for _, op := range []api.Op{
			{Kind: api.Create, W: n, H: n, Pixels: junk, Mark: n},
			{Kind: api.Destroy, X: n, Y: n, W: n, H: n, Pixels: junk, Mark: n},
			{Kind: api.Attach, X: n, Y: n, W: 1, H: 1, Pixels: []int{1}, Mark: n},
			{Kind: api.Move, W: n, H: n, Pixels: junk, Mark: n},
			{Kind: api.Raise, X: n, Y: n, W: n, H: n, Pixels: junk, Mark: n},
			{Kind: api.Lower, X: n, Y: n, W: n, H: n, Pixels: junk, Mark: n},
			{Kind: api.Slide, W: 1, H: n, Pixels: junk, Mark: n},
			{Kind: api.Ask, Surface: n, X: n, Y: n, W: n, H: n, Pixels: junk, Mark: n},
		} {
			c := great()
			c.Most = 4 // what is not looked at costs nothing
			wantSubmit(t, screen(t, c, 1), 0, api.OK, alone(op)...)
		}
	}
}

// TestP8Number: a surface has a number from 0 to Surfaces less 1.
func TestP8Number(t *testing.T) {
	for surfaces := 1; surfaces <= api.MaxSurfaces; surfaces++ {
		c := great()
		c.Surfaces = surfaces
		for n := -2; n <= api.MaxSurfaces+1; n++ {
			want := api.ErrInvalid
			if n >= 0 && n < surfaces {
				want = api.OK
			}
			wantSubmit(t, screen(t, c, 1), 0, want, create(n))
			wantSubmit(t, screen(t, c, 1), 0, want, create(n), destroy(n))
		}
		for _, n := range []int{math.MinInt, math.MaxInt, 1 << 32, -1 << 32} {
			for kind := 1; kind <= 7; kind++ {
				wantSubmit(t, screen(t, c, 1), 0, api.ErrInvalid, api.Op{Kind: kind, Surface: n, W: 1, H: 1, Pixels: []int{1}})
			}
		}
	}
}

// others are operations, each right but for its surface, of all kinds that need one.
func others(n int) []api.Op {
	return []api.Op{
		destroy(n), attach(n, 1, 1), {Kind: api.Move, Surface: n}, {Kind: api.Raise, Surface: n},
		{Kind: api.Lower, Surface: n}, {Kind: api.Slide, Surface: n, W: 1},
	}
}

// TestP8Ahead: what counts is what the client has when the operations ahead, in this transaction, are done.
func TestP8Ahead(t *testing.T) {
	for _, op := range others(0) {
		wantSubmit(t, screen(t, great(), 1), 0, api.ErrInvalid, op)
		wantSubmit(t, screen(t, great(), 1), 0, api.ErrInvalid, create(1), op)
		wantSubmit(t, screen(t, great(), 1), 0, api.ErrInvalid, op, create(0))
		wantSubmit(t, screen(t, great(), 1), 0, api.ErrInvalid, create(0), destroy(0), op)
		wantSubmit(t, screen(t, great(), 1), 0, api.OK, create(0), op)
		wantSubmit(t, screen(t, great(), 1), 0, api.OK, create(0), destroy(0), create(0), op)
		wantSubmit(t, screen(t, great(), 1), 0, api.OK, create(0), create(1), destroy(1), op)
		if op.Kind != api.Destroy {
			wantSubmit(t, screen(t, great(), 1), 0, api.ErrInvalid, create(0), op, create(0))
			wantSubmit(t, screen(t, great(), 1), 0, api.OK, create(0), op, op, destroy(0), create(0))
		}
	}
	wantSubmit(t, screen(t, great(), 1), 0, api.ErrInvalid, create(0), create(0))
	wantSubmit(t, screen(t, great(), 1), 0, api.ErrInvalid, create(0), ask(1), create(0))
	wantSubmit(t, screen(t, great(), 1), 0, api.OK, create(3), create(0), create(2), create(1))
}

// TestP8Waiting: what counts is what the client has when all that waits is done.
func TestP8Waiting(t *testing.T) {
	for _, op := range others(0) {
		s := screen(t, great(), 2)
		wantSubmit(t, s, 0, api.OK, create(0), create(1))
		wantSubmit(t, s, 0, api.ErrInvalid, create(0))
		wantSubmit(t, s, 0, api.ErrInvalid, create(2), create(0))
		wantSubmit(t, s, 0, api.OK, op)
		wantSubmit(t, s, 1, api.ErrInvalid, op)
		if op.Kind != api.Destroy {
			wantSubmit(t, s, 0, api.ErrInvalid, create(0))
			wantSubmit(t, s, 0, api.OK, destroy(0))
		}
		wantSubmit(t, s, 0, api.ErrInvalid, op)
		wantSubmit(t, s, 0, api.ErrInvalid, create(1))
		wantSubmit(t, s, 0, api.OK, ask(1))
		wantSubmit(t, s, 0, api.ErrInvalid, op)
		wantSubmit(t, s, 0, api.OK, create(0))
		wantSubmit(t, s, 0, api.OK, op)
	}
}

func TestP8Cost(t *testing.T) {
	for _, c := range []struct {
		cost int
		ops  []api.Op
	}{
		{1, []api.Op{ask(1)}},
		{1, []api.Op{create(0)}},
		{5, []api.Op{{Kind: api.Create, X: 1}, pixels(5, 0), ask(77)}},
		{3, []api.Op{create(0), pixels(0)}},
		{8, []api.Op{create(0), attach(0, 2, 3)}},
		{66, []api.Op{create(0), attach(0, 8, 8)}},
		{7, []api.Op{create(0), {Kind: api.Move, X: 100, Y: 100}, {Kind: api.Raise}, {Kind: api.Lower}, {Kind: api.Slide, W: 20}, ask(9), destroy(0)}},
		{20, slices.Repeat([]api.Op{ask(1)}, 20)},
		{18, []api.Op{create(0), create(1), attach(1, 1, 5), attach(0, 3, 3)}},
		{299, []api.Op{create(0), attach(0, 8, 8), attach(0, 8, 8), attach(0, 8, 8), attach(0, 8, 8), attach(0, 1, 8), attach(0, 7, 4)}},
	} {
		config := great()
		for _, most := range []int{c.cost - 1, c.cost, c.cost + 1} {
			if most < 1 {
				continue
			}
			want := api.OK
			if most < c.cost {
				want = api.ErrInvalid
			}
			config.Most = most
			wantSubmit(t, screen(t, config, 1), 0, want, c.ops...)
		}
	}
	// Each by itself may cost Most, however much the others do that wait.
	s := screen(t, small(), 1)
	wantSubmit(t, s, 0, api.OK, create(0), attach(0, 6, 3))
	wantSubmit(t, s, 0, api.OK, attach(0, 6, 3), ask(1))
}

// TestP8MostCost: MaxCost, where Most is that.
func TestP8MostCost(t *testing.T) {
	ops := append([]api.Op{create(0)}, slices.Repeat([]api.Op{attach(0, 8, 8)}, 4)...)
	ops = append(ops, attach(0, 5, 7), ask(1), ask(2), ask(3), ask(4))
	wantSubmit(t, screen(t, great(), 1), 0, api.OK, ops[:9]...)
	wantSubmit(t, screen(t, great(), 1), 0, api.ErrInvalid, ops...)
	wantSubmit(t, screen(t, great(), 1), 0, api.ErrInvalid, append(ops[:1:1], slices.Repeat(ops[1:2], 19)...)...)
}

func TestP8Queue(t *testing.T) {
	for queue := 1; queue <= api.MaxQueue; queue++ {
		c := great()
		c.Queue = queue
		s := screen(t, c, 2)
		for range queue {
			wantSubmit(t, s, 0, api.ErrInvalid, create(0), create(0))
			wantSubmit(t, s, 0, api.OK, ask(1))
		}
		wantSubmit(t, s, 0, api.ErrBusy, ask(1))
		wantSubmit(t, s, 0, api.ErrBusy, create(0), attach(0, 8, 8))
		wantSubmit(t, s, 1, api.OK, ask(1))
		wantSubmit(t, s, 0, api.ErrBusy, ask(1))
	}
}

// TestP1Order: ErrInvalid is named ahead of ErrBusy.
func TestP1Order(t *testing.T) {
	c := small()
	c.Queue = 1
	s := screen(t, c, 1)
	wantSubmit(t, s, 0, api.OK, create(0))
	wantSubmit(t, s, 0, api.ErrBusy, ask(1))
	for _, ops := range [][]api.Op{nil, {}, {create(0)}, {{Kind: 9}}, {destroy(1)}, {attach(0, 4, 5)}, slices.Repeat([]api.Op{ask(1)}, 21)} {
		wantSubmit(t, s, 0, api.ErrInvalid, ops...)
	}
	wantSubmit(t, s, 1, api.ErrInvalid, ask(1))
	wantSubmit(t, s, 0, api.ErrBusy, ask(1))
}

// TestP14Submit: a transaction that is refused is refused as a whole: it does not wait, and no surface is there or gone for it.
func TestP14Submit(t *testing.T) {
	s := screen(t, small(), 1)
	bad := pixels(4294967296)
	for _, ops := range [][]api.Op{{create(0), bad}, {create(0), create(1), destroy(0), destroy(0)}, {create(0), attach(0, 6, 3), ask(1)}, append(slices.Repeat([]api.Op{ask(1)}, 20), create(0))} {
		wantSubmit(t, s, 0, api.ErrInvalid, ops...)
		wantSubmit(t, s, 0, api.ErrInvalid, destroy(0))
	}
	wantSubmit(t, s, 0, api.OK, create(0))
	for _, ops := range [][]api.Op{{destroy(0), bad}, {destroy(0), create(0), attach(0, 6, 3)}, {create(1), create(0)}} {
		wantSubmit(t, s, 0, api.ErrInvalid, ops...)
		wantSubmit(t, s, 0, api.ErrInvalid, create(0))
		wantSubmit(t, s, 0, api.ErrInvalid, destroy(1))
	}
	wantSubmit(t, s, 0, api.OK, destroy(0))
	wantSubmit(t, s, 0, api.ErrBusy, create(0))
	wantSubmit(t, s, 0, api.ErrBusy, create(0))
	wantSubmit(t, s, 0, api.ErrInvalid, destroy(0))
}

// TestP2Submit: what is handed in is left as it is, spare room too, and what becomes of it later is of no matter.
func TestP2Submit(t *testing.T) {
	row := []int{1, 2, 3, 88, 88}
	whole := []api.Op{create(0), {Kind: api.Attach, W: 3, H: 1, Pixels: row[:3]}, ask(5), {Kind: 77}, {Kind: 77}}
	keptRow, kept := slices.Clone(row), slices.Clone(whole)
	s := screen(t, small(), 2)
	for _, want := range []api.Errno{api.OK, api.ErrInvalid} {
		wantSubmit(t, s, 0, want, whole[:3]...)
		if !slices.Equal(row, keptRow) || !reflect.DeepEqual(whole, kept) {
			t.Fatalf("P2: written into what was handed in: %+v, %v", whole, row)
		}
	}
	wantSubmit(t, s, 1, api.OK, whole[:3]...)
	whole[0] = destroy(1)
	for n := range 2 {
		wantSubmit(t, s, n, api.ErrInvalid, create(0))
		wantSubmit(t, s, n, api.OK, destroy(0))
	}
}

// model is what a client has handed in, told as the document tells it: by going through all that was done and all that waits each time.
type model struct {
	done    []api.Op
	waiting [][]api.Op
	credit  int
}

func (m *model) has(n int, ahead []api.Op) bool {
	has := false
	for _, op := range slices.Concat(m.done, slices.Concat(m.waiting...), ahead) {
		if op.Surface == n && op.Kind == api.Create {
			has = true
		}
		if op.Surface == n && op.Kind == api.Destroy {
			has = false
		}
	}
	return has
}

// admitted lets the first transactions wait no longer. Of what is done only what makes and ends surfaces matters.
func (m *model) admitted(count int) {
	for _, op := range slices.Concat(m.waiting[:count]...) {
		if op.Kind == api.Create || op.Kind == api.Destroy {
			m.done = append(m.done, op)
		}
	}
	m.waiting = m.waiting[count:]
}

func costOf(ops []api.Op) int {
	cost := 0
	for _, op := range ops {
		cost++
		if op.Kind == api.Attach {
			cost += op.W * op.H
		}
	}
	return cost
}

func (m *model) submit(c api.Config, ops []api.Op) api.Errno {
	for i, op := range ops {
		if op.Kind != api.Ask && (op.Surface >= c.Surfaces || m.has(op.Surface, ops[:i]) == (op.Kind == api.Create)) {
			return api.ErrInvalid
		}
	}
	if len(ops) == 0 || len(ops) > 20 || costOf(ops) > c.Most {
		return api.ErrInvalid
	}
	if len(m.waiting) == c.Queue {
		return api.ErrBusy
	}
	m.waiting = append(m.waiting, ops)
	return api.OK
}

// someOps makes operations that are right but for their surfaces, most of them for a surface as it should be.
func someOps(rnd *rand.Rand, m *model) []api.Op {
	var ops []api.Op
	for range rnd.Intn(7) {
		n := rnd.Intn(4)
		op := append(others(n), ask(n), attach(n, 1+rnd.Intn(3), 1+rnd.Intn(3)))[rnd.Intn(8)]
		if rnd.Intn(20) > 0 && op.Kind != api.Ask && !m.has(n, ops) {
			op = create(n)
		}
		ops = append(ops, op)
	}
	return ops
}

// TestP8Model holds Submit, of several clients, against the model.
func TestP8Model(t *testing.T) {
	rnd := rand.New(rand.NewSource(5))
	seen := map[api.Errno]int{}
	for range 1500 {
		c := great()
		c.Most, c.Queue, c.Surfaces, c.Clients = 4+rnd.Intn(20), 1+rnd.Intn(8), 2+rnd.Intn(3), 1+rnd.Intn(4)
		s := screen(t, c, c.Clients)
		models := make([]model, c.Clients)
		for range 40 {
			n := rnd.Intn(c.Clients)
			ops := someOps(rnd, &models[n])
			want := models[n].submit(c, ops)
			wantSubmit(t, s, n, want, ops...)
			seen[want]++
		}
	}
	if len(seen) != 3 {
		t.Errorf("the model answered only %v", seen)
	}
}

// TestP1AnyNumbers: whatever the numbers are, there is an answer.
func TestP1AnyNumbers(t *testing.T) {
	rnd := rand.New(rand.NewSource(9))
	odd := []int{0, 1, 2, 8, -1, 9, 21, 101, 1 << 31, 1 << 32, 1 << 62, -1 << 62, math.MinInt, math.MaxInt}
	one := func() int { return odd[rnd.Intn(len(odd))] }
	for range 2000 {
		if s, e := panes.New(api.Config{W: one(), H: one(), Clients: one(), Queue: one(), Most: one(), Quantum: one(), Surfaces: one(), Behind: one()}); (s == nil) != (e == api.ErrConfig) {
			t.Fatalf("P6: New = %v, %d", s, e)
		}
		s := screen(t, great(), 1+rnd.Intn(4))
		var ops []api.Op
		for range rnd.Intn(25) {
			op := api.Op{Kind: rnd.Intn(10), Surface: rnd.Intn(4), X: one(), Y: one(), W: one(), H: one(), Pixels: make([]int, rnd.Intn(5)), Mark: one()}
			if rnd.Intn(3) == 0 {
				op.Kind, op.Surface = one(), one()
			}
			ops = append(ops, op)
		}
		if e := s.Submit(one(), ops); e != api.OK && e != api.ErrInvalid {
			t.Fatalf("P8: Submit(%+v) = %d", ops, e)
		}
	}
}

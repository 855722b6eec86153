package panes_test

import (
	"math"
	"math/rand"
	"reflect"
	"slices"
	"testing"

	"panes/api"
	"panes/panes"
)

// What follows from the calls together: P2, P9 of several clients, P11 to P14.

func asks(marks ...int) []api.Op {
	var ops []api.Op
	for _, m := range marks {
		ops = append(ops, ask(m))
	}
	return ops
}

// TestP9Credit: a client's credit grows by Quantum each tick in which it has something that waits, and is gone when nothing does.
func TestP9Credit(t *testing.T) {
	for _, c := range []struct {
		name     string
		quantum  int
		costs    []int
		admitted []int
	}{
		{"each costs all", 6, []int{6, 6, 6}, []int{1, 1, 1, 0}},
		{"two at once", 6, []int{3, 3, 3}, []int{2, 1, 0}},
		{"a rest is kept", 8, []int{6, 6, 6, 6}, []int{1, 1, 2, 0}},
		{"rests come together", 9, []int{6, 6, 6, 6}, []int{1, 2, 1, 0}},
		{"one more by the last unit", 7, []int{6, 2, 6}, []int{1, 2, 0}},
		{"just not", 7, []int{5, 3, 6, 1}, []int{1, 2, 1, 0}},
		{"the first holds the others up", 6, []int{5, 6, 1, 1}, []int{1, 2, 1, 0}},
		{"all at once", 600, []int{6, 6, 6, 6, 6, 6, 6, 6}, []int{8, 0, 0}},
	} {
		config := small()
		config.Most, config.Quantum, config.Queue = 6, c.quantum, 8
		s := screen(t, config, 1)
		for _, n := range c.costs {
			wantSubmit(t, s, 0, api.OK, slices.Repeat(asks(1), n)...)
		}
		for i, want := range c.admitted {
			if r, e := s.Tick(0); e != api.OK || r.Admitted[0] != want {
				t.Fatalf("P9: %s: tick %d: %+v, want %d admitted", c.name, i+1, r, want)
			}
		}
	}
}

// TestP9CreditGone: what is left when the queue becomes empty, or while it is, is not saved up.
func TestP9CreditGone(t *testing.T) {
	config := small()
	config.Most, config.Quantum, config.Queue = 6, 6, 8
	s := screen(t, config, 1)
	for n := 1; n <= 9; n += 3 {
		for range n {
			s.Tick(0)
		}
		wantSubmit(t, s, 0, api.OK, asks(1)...)
		if r, _ := s.Tick(0); r.Admitted[0] != 1 {
			t.Fatalf("P9: %+v", r)
		}
		for range 3 {
			wantSubmit(t, s, 0, api.OK, asks(1, 2, 3, 4, 5, 6)...)
		}
		for range 3 {
			if r, _ := s.Tick(0); r.Admitted[0] != 1 {
				t.Fatalf("P9: credit was saved up: %+v", r)
			}
		}
	}
}

// TestP9Clients: client by client, by their numbers; marks in the order in which they were asked for.
func TestP9Clients(t *testing.T) {
	c := small()
	c.Clients, c.Most, c.Quantum, c.Queue = 3, 4, 4, 8
	s := screen(t, c, 3)
	wantSubmit(t, s, 2, api.OK, append(asks(1, 2), create(0))...)
	wantSubmit(t, s, 0, api.OK, asks(3, 3, 3)...)
	wantSubmit(t, s, 2, api.OK, asks(math.MinInt)...)
	wantSubmit(t, s, 0, api.OK, asks(4, 5)...)
	wantDisconnect(t, s, 1, api.OK)
	fired := func(client int, marks ...int) []api.Fired {
		var l []api.Fired
		for _, m := range marks {
			l = append(l, api.Fired{Client: client, Mark: m})
		}
		return l
	}
	wantReport(t, s, 0, api.Report{Tick: 1, Admitted: []int{1, 0, 2}})
	wantSubmit(t, s, 2, api.OK, asks(math.MaxInt)...)
	wantReport(t, s, 0, api.Report{Tick: 2, Flip: 1, Admitted: []int{1, 0, 1}, Fired: append(fired(0, 3, 3, 3), fired(2, 1, 2, math.MinInt)...)})
	wantReport(t, s, 0, api.Report{Tick: 3, Flip: 1, Admitted: []int{0, 0, 0}, Fired: append(fired(0, 4, 5), fired(2, math.MaxInt)...)})
	wantReport(t, s, 0, api.Report{Tick: 4, Admitted: []int{0, 0, 0}})
}

// TestP9Order: surfaces of several clients lie in one order.
func TestP9Order(t *testing.T) {
	c := great()
	c.W, c.H = 3, 1
	s := screen(t, c, 2)
	wantSubmit(t, s, 1, api.OK, create(0), filled(0, 2, 1, 6))
	wantSubmit(t, s, 0, api.OK, create(0), filled(0, 3, 1, 5))
	settle(t, s)
	wantFront(t, s, 6, 6, 5) // client 0 went first
	wantSubmit(t, s, 0, api.OK, raise(0))
	settle(t, s)
	wantFront(t, s, 5, 5, 5)
	wantSubmit(t, s, 0, api.OK, lower(0))
	wantSubmit(t, s, 1, api.OK, lower(0))
	settle(t, s)
	wantFront(t, s, 5, 5, 5)
	wantSubmit(t, s, 1, api.OK, raise(0))
	settle(t, s)
	wantFront(t, s, 6, 6, 5)
	wantDisconnect(t, s, 1, api.OK)
	settle(t, s)
	wantFront(t, s, 5, 5, 5)
}

// TestP11Moment: what changes while a frame is painted is not in it.
func TestP11Moment(t *testing.T) {
	s := line(t, 4)
	wantSubmit(t, s, 0, api.OK, create(0), filled(0, 4, 1, 5), ask(1))
	wantTick(t, s, 1, [4]int{1, 0, 1, 1})
	wantSubmit(t, s, 0, api.OK, filled(0, 4, 1, 6), ask(2))
	wantTick(t, s, 1, [4]int{2, 0, 1, 1})
	wantSubmit(t, s, 0, api.OK, filled(0, 4, 1, 7), ask(3))
	wantTick(t, s, 1, [4]int{3, 0, 1, 1})
	wantFront(t, s, 1, 1, 1, 1)
	wantTick(t, s, 1, [4]int{4, 0, 1, 0})
	wantTick(t, s, 3, [4]int{5, 1, 3, 0}, 1)
	wantFront(t, s, 5, 5, 5, 5)
	wantTick(t, s, 3, [4]int{6, 0, 1, 0})
	wantTick(t, s, 3, [4]int{7, 1, 0, 0}, 2, 3)
	wantFront(t, s, 7, 7, 7, 7)
	wantTick(t, s, 3, [4]int{8, 0, 0, 0})
}

// TestP10Front: W times H pixels, row by row, at all sizes.
func TestP10Front(t *testing.T) {
	for _, c := range [][2]int{{1, 1}, {1, 16}, {16, 1}, {5, 3}, {16, 16}} {
		config := great()
		config.W, config.H, config.Behind = c[0], c[1], api.MaxPixel
		s := screen(t, config, 1)
		want := slices.Repeat([]int{4294967295}, c[0]*c[1])
		wantFront(t, s, want...)
		wantSubmit(t, s, 0, api.OK, createAt(0, c[0]-1, c[1]-1), pixels(7))
		wantTick(t, s, 1, [4]int{1, 0, 1, 1})
		wantTick(t, s, 1, [4]int{2, 1, 0, 0})
		want[len(want)-1] = 7
		wantFront(t, s, want...)
	}
}

// TestP2Answers: whoever writes into what came out changes nothing.
func TestP2Answers(t *testing.T) {
	rnd := rand.New(rand.NewSource(4))
	for range 30 {
		c := worldConfig(rnd)
		s, w := screen(t, c, c.Clients), newWorld(c)
		for range c.Clients {
			w.connect()
		}
		for range 100 {
			n, budget := rnd.Intn(c.Clients), rnd.Intn(20)
			ops := worldOps(rnd, c, w.clients[n])
			kept := cloneOps(ops)
			got, want := s.Submit(n, ops), w.submit(n, kept)
			if got != want || !reflect.DeepEqual(ops, kept) {
				t.Fatalf("P2, P8: Submit(%+v) = %d, want %d", kept, got, want)
			}
			for _, op := range ops {
				scribble(op.Pixels, 77)
			}
			scribble(ops, api.Op{Kind: 77})
			report, _ := s.Tick(budget)
			if want := w.tick(budget); !same(report, want) || !slices.Equal(s.Front(), w.shown) {
				t.Fatalf("P2, P9: %+v, want %+v; shown %v, want %v", report, want, s.Front(), w.shown)
			}
			scribble(report.Admitted, 55)
			scribble(report.Fired, api.Fired{Client: 55, Mark: 55})
			scribble(s.Front(), 55)
		}
	}
}

func cloneOps(ops []api.Op) []api.Op {
	l := slices.Clone(ops)
	for i := range l {
		l[i].Pixels = slices.Clone(l[i].Pixels)
	}
	return l
}

// TestP2Apart: what one screen shows has nothing to do with another one.
func TestP2Apart(t *testing.T) {
	a, b := screen(t, small(), 1), screen(t, small(), 1)
	wantSubmit(t, a, 0, api.OK, create(0), filled(0, 4, 2, 5), ask(1))
	wantTick(t, a, 9, [4]int{1, 0, 8, 1})
	wantTick(t, b, 9, [4]int{1, 0, 0, 0})
	wantSubmit(t, b, 0, api.OK, create(0), pixels(6), ask(2))
	wantTick(t, a, 9, [4]int{2, 1, 0, 0}, 1)
	wantFront(t, b, 9, 9, 9, 9, 9, 9, 9, 9)
	wantTick(t, b, 9, [4]int{2, 0, 1, 1})
	wantDisconnect(t, a, 0, api.OK)
	wantTick(t, b, 9, [4]int{3, 1, 0, 0}, 2)
	wantFront(t, a, 5, 5, 5, 5, 5, 5, 5, 5)
	wantFront(t, b, 6, 9, 9, 9, 9, 9, 9, 9)
}

// waitingMark is one that was asked for: of whom, and at how many ticks with a budget.
type waitingMark struct {
	client, mark, since int
}

// TestP12InTime: every mark is fired in time, once, and those of a client in their order.
func TestP12InTime(t *testing.T) {
	for seed := range int64(150) {
		rnd := rand.New(rand.NewSource(seed))
		c := worldConfig(rnd)
		c.W, c.H = min(c.W, 5), min(c.H, 5)
		s := screen(t, c, c.Clients)
		inTime(t, rnd, c, s, 1+rnd.Intn(3))
	}
}

func inTime(t *testing.T, rnd *rand.Rand, c api.Config, s *panes.Screen, most int) {
	t.Helper()
	var waiting []waitingMark
	models := make([]model, c.Clients)
	paid, bound := 0, c.Queue+2*c.W*c.H+3
	for mark := range 400 {
		n := rnd.Intn(c.Clients)
		ops := slices.DeleteFunc(worldOps(rnd, c, &models[n]), func(op api.Op) bool { return op.Kind == api.Ask })
		ops = append(ops, ask(mark))
		if mark < 300 && models[n].submit(c, ops) == api.OK {
			wantSubmit(t, s, n, api.OK, ops...)
			waiting = append(waiting, waitingMark{n, mark, paid})
		}
		budget := rnd.Intn(most + 1)
		r, _ := s.Tick(budget)
		paid += min(1, budget)
		for i, count := range r.Admitted {
			models[i].admitted(count)
		}
		for _, f := range r.Fired {
			i := slices.IndexFunc(waiting, func(m waitingMark) bool { return m.client == f.Client })
			if i < 0 || waiting[i].mark != f.Mark {
				t.Fatalf("P12: %v was fired, while %v wait", f, waiting)
			}
			waiting = slices.Delete(waiting, i, i+1)
		}
		for _, m := range waiting {
			if paid-m.since >= bound {
				t.Fatalf("P12: %v still waits after %d ticks with a budget, %+v", m, paid-m.since, c)
			}
		}
	}
}

// TestP13Fair: while two queues are never empty, in whatever stretch of time, neither gets much more than the other.
func TestP13Fair(t *testing.T) {
	for seed := range int64(100) {
		rnd := rand.New(rand.NewSource(seed))
		c := worldConfig(rnd)
		c.Clients, c.Queue = 2, 8
		c.Most = min(c.Most, 20)
		c.Quantum = c.Most + rnd.Intn(5)
		s := screen(t, c, 2)
		var waiting [2][]int // what costs how much
		var got [2]int
		ahead := []int{0} // how much more client 0 got, tick by tick
		for range 100 {
			for n := range waiting {
				for len(waiting[n]) < 8 {
					cost := 1 + rnd.Intn(c.Most)
					if n == 0 && seed%3 == 0 { // many small ones against few great ones
						cost = 1 + c.Most/4
					}
					wantSubmit(t, s, n, api.OK, slices.Repeat(asks(1), cost)...)
					waiting[n] = append(waiting[n], cost)
				}
			}
			r, _ := s.Tick(1)
			for n, count := range r.Admitted {
				for _, cost := range waiting[n][:count] {
					got[n] += cost
				}
				waiting[n] = waiting[n][count:]
			}
			if len(waiting[0]) == 0 || len(waiting[1]) == 0 {
				ahead = []int{}
			}
			ahead = append(ahead, got[0]-got[1])
			if most := slices.Max(ahead) - slices.Min(ahead); most > c.Quantum+c.Most {
				t.Fatalf("P13: seed %d, %+v: one got %d more than the other", seed, c, most)
			}
		}
	}
}

// refused makes a call that is refused, and leaves it at that.
func refused(t *testing.T, rnd *rand.Rand, s *panes.Screen, w *world) {
	t.Helper()
	n := rnd.Intn(w.c.Clients)
	bad := []api.Op{ask(1), {Kind: api.Create, Surface: n, X: 101}}
	switch rnd.Intn(6) {
	case 0:
		if _, e := s.Tick(-1 - rnd.Intn(9)); e != api.ErrInvalid {
			t.Fatalf("P9: Tick below 0 = %d", e)
		}
	case 1:
		wantDisconnect(t, s, w.c.Clients, api.ErrInvalid)
	case 2:
		wantSubmit(t, s, n, api.ErrInvalid, bad...)
	case 3:
		wantSubmit(t, s, n, api.ErrInvalid, append(asks(1, 2), destroy(w.c.Surfaces))...)
	case 4:
		if !slices.Contains(w.clients, nil) {
			wantMany(t, s)
		}
	case 5:
		if m := w.clients[n]; m != nil && len(m.waiting) == w.c.Queue {
			wantSubmit(t, s, n, api.ErrBusy, ask(1))
		}
	}
}

// TestP14Refused: with calls that are refused in between, all is as without them.
func TestP14Refused(t *testing.T) {
	for seed := range int64(100) {
		rnd, other := rand.New(rand.NewSource(seed)), rand.New(rand.NewSource(seed))
		c, most := worldConfig(rnd), 1+rnd.Intn(9)
		s, w := screen(t, c, 0), newWorld(c)
		for range 200 {
			refused(t, other, s, w)
			if what, got, want := step(rnd, s, w, most); !reflect.DeepEqual(got, want) {
				t.Fatalf("P14: %s: seed %d: %v, want %v", what, seed, got, want)
			}
		}
	}
}

package panes_test

import (
	"math/rand"
	"reflect"
	"slices"
	"testing"

	"panes/api"
	"panes/panes"
)

// world is a screen told as the document tells it. It has no buffers: a frame has its whole picture from the beginning, and what is stale is found by when each pixel was damaged.
type world struct {
	c        api.Config
	clients  []*model
	surfaces []worldSurface // the lowest first
	marks    []api.Fired    // in no frame yet
	now      int            // how much has happened
	reason   int            // when there was a reason for a frame, at the last
	damaged  []int          // by pixel: when it was damaged, at the last
	begun    [3]int         // by buffer: when its frame was begun, at the last
	front    int
	shown    []int
	frame    *worldFrame
	ticks    int
}

type worldSurface struct {
	client, number int
	x, y           int
	buffer         api.Op // its Attach; without a width, if there was none
	slide          api.Op // its Slide, with W as many ticks as are left
}

type worldFrame struct {
	buffer, left int
	picture      []int
	marks        []api.Fired
}

func newWorld(c api.Config) *world {
	return &world{c: c, clients: make([]*model, c.Clients), damaged: make([]int, c.W*c.H), shown: slices.Repeat([]int{c.Behind}, c.W*c.H)}
}

func (s worldSurface) covers(x, y int) bool {
	return covers([]api.Rect{{X: s.x, Y: s.y, W: s.buffer.W, H: s.buffer.H}}, x, y)
}

func (w *world) picture() []int {
	var l []int
	for y := range w.c.H {
		for x := range w.c.W {
			pixel := w.c.Behind
			for _, s := range w.surfaces {
				if !s.covers(x, y) {
					continue
				}
				if p := s.buffer.Pixels[(y-s.y)*s.buffer.W+x-s.x]; p != 0 {
					pixel = p
				}
			}
			l = append(l, pixel)
		}
	}
	return l
}

func (w *world) damage(s worldSurface) {
	w.now++
	for i := range w.damaged {
		if s.covers(i%w.c.W, i/w.c.W) {
			w.damaged[i], w.reason = w.now, w.now
		}
	}
}

func (w *world) find(client, number int) int {
	return slices.IndexFunc(w.surfaces, func(s worldSurface) bool { return s.client == client && s.number == number })
}

// put takes a surface out of the order, and puts it in again somewhere else, perhaps changed.
func (w *world) put(s worldSurface, to int) {
	if i := w.find(s.client, s.number); i >= 0 {
		w.surfaces = slices.Delete(w.surfaces, i, i+1)
	}
	if to >= 0 {
		w.surfaces = slices.Insert(w.surfaces, min(to, len(w.surfaces)), s)
	}
}

func (w *world) do(client int, op api.Op) {
	if op.Kind == api.Ask {
		w.marks = append(w.marks, api.Fired{Client: client, Mark: op.Mark})
		return
	}
	i := w.find(client, op.Surface)
	if op.Kind == api.Create {
		w.put(worldSurface{client: client, number: op.Surface, x: op.X, y: op.Y}, 99)
		return
	}
	s, to := w.surfaces[i], i
	switch op.Kind {
	case api.Destroy:
		to = -1
	case api.Attach:
		s.buffer = op
	case api.Move:
		s.x, s.y, s.slide = op.X, op.Y, api.Op{}
	case api.Raise:
		to = len(w.surfaces) - 1
	case api.Lower:
		to = 0
	case api.Slide:
		s.slide = op
	}
	if to != i || s.x != w.surfaces[i].x || s.y != w.surfaces[i].y || op.Kind == api.Attach {
		w.damage(w.surfaces[i])
		w.damage(s)
	}
	w.put(s, to)
}

func (w *world) disconnect(client int) api.Errno {
	if client < 0 || client >= w.c.Clients || w.clients[client] == nil {
		return api.ErrInvalid
	}
	w.clients[client] = nil
	for i := len(w.surfaces) - 1; i >= 0; i-- {
		if w.surfaces[i].client == client {
			w.do(client, destroy(w.surfaces[i].number))
		}
	}
	others := func(l []api.Fired) []api.Fired {
		var kept []api.Fired
		for _, m := range l {
			if m.Client != client {
				kept = append(kept, m)
			}
		}
		return kept
	}
	w.marks = others(w.marks)
	if w.frame != nil {
		w.frame.marks = others(w.frame.marks)
	}
	return api.OK
}

func (w *world) connect() (int, api.Errno) {
	for n, c := range w.clients {
		if c == nil {
			w.clients[n] = &model{}
			return n, api.OK
		}
	}
	return 0, api.ErrMany
}

func (w *world) submit(client int, ops []api.Op) api.Errno {
	if client < 0 || client >= w.c.Clients || w.clients[client] == nil {
		return api.ErrInvalid
	}
	return w.clients[client].submit(w.c, ops)
}

func (w *world) tick(budget int) api.Report {
	w.ticks++
	report := api.Report{Tick: w.ticks, Admitted: make([]int, w.c.Clients)}
	if w.frame != nil && w.frame.left == 0 {
		w.front, w.shown = w.frame.buffer, w.frame.picture
		report.Flip, report.Fired = 1, w.frame.marks
		w.frame = nil
	}
	for _, s := range slices.Clone(w.surfaces) {
		if s.slide.W > 0 {
			rest := s.slide
			rest.W--
			w.do(s.client, api.Op{Kind: api.Move, Surface: s.number, X: s.x + rest.X, Y: s.y + rest.Y})
			w.surfaces[w.find(s.client, s.number)].slide = rest
		}
	}
	for n, c := range w.clients {
		if c != nil {
			report.Admitted[n] = w.admit(n, c)
		}
	}
	w.begin()
	if w.frame != nil {
		report.Painted = min(budget, w.frame.left)
		w.frame.left -= report.Painted
	}
	return report
}

func (w *world) admit(n int, c *model) int {
	count := 0
	if len(c.waiting) == 0 {
		c.credit = 0
		return 0
	}
	c.credit += w.c.Quantum
	for len(c.waiting) > 0 && costOf(c.waiting[0]) <= c.credit {
		for _, op := range c.waiting[0] {
			w.do(n, op)
		}
		c.credit -= costOf(c.waiting[0])
		c.admitted(1)
		w.now++
		w.reason = w.now
		count++
	}
	if len(c.waiting) == 0 {
		c.credit = 0
	}
	return count
}

func (w *world) begin() {
	if w.frame != nil || w.reason <= slices.Max(w.begun[:]) {
		return
	}
	two := slices.DeleteFunc([]int{0, 1, 2}, func(n int) bool { return n == w.front })
	b := two[0]
	if w.begun[two[1]] < w.begun[b] {
		b = two[1]
	}
	w.frame = &worldFrame{buffer: b, picture: w.picture(), marks: w.marks}
	for _, when := range w.damaged {
		if when > w.begun[b] {
			w.frame.left++
		}
	}
	w.marks = nil
	w.now++
	w.begun[b] = w.now
}

// worldOp makes an operation that is right, but perhaps for its surface.
func worldOp(rnd *rand.Rand, c api.Config) api.Op {
	op := api.Op{Kind: 1 + rnd.Intn(8), Surface: rnd.Intn(c.Surfaces), Mark: rnd.Intn(1000) - 500}
	switch op.Kind {
	case api.Create, api.Move:
		op.X, op.Y = rnd.Intn(c.W+8)-6, rnd.Intn(c.H+8)-6
	case api.Attach:
		op.W, op.H = 1+rnd.Intn(1+rnd.Intn(8)), 1+rnd.Intn(1+rnd.Intn(8))
		for range op.W * op.H {
			op.Pixels = append(op.Pixels, rnd.Intn(3)*rnd.Intn(1000))
		}
	case api.Slide:
		op.X, op.Y, op.W = rnd.Intn(9)-4, rnd.Intn(9)-4, 1+rnd.Intn(6)
	}
	return op
}

// worldOps makes a transaction of which most operations are for a surface as it should be.
func worldOps(rnd *rand.Rand, c api.Config, m *model) []api.Op {
	var ops []api.Op
	for range 1 + rnd.Intn(4) {
		op := worldOp(rnd, c)
		for range 20 {
			if m == nil || op.Kind == api.Ask || m.has(op.Surface, ops) != (op.Kind == api.Create) {
				break
			}
			op = worldOp(rnd, c)
		}
		ops = append(ops, op)
	}
	return ops
}

func worldConfig(rnd *rand.Rand) api.Config {
	if rnd.Intn(10) == 0 {
		return great()
	}
	most := 8 + rnd.Intn(40)
	return api.Config{
		W: 1 + rnd.Intn(9), H: 1 + rnd.Intn(9), Clients: 1 + rnd.Intn(4), Queue: 1 + rnd.Intn(8),
		Most: most, Quantum: most + rnd.Intn(30), Surfaces: 1 + rnd.Intn(4), Behind: 1 + rnd.Intn(50),
	}
}

// same tells whether two reports are the same; a list of nothing may be nil.
func same(a, b api.Report) bool {
	return a.Tick == b.Tick && a.Flip == b.Flip && a.Painted == b.Painted &&
		slices.Equal(a.Admitted, b.Admitted) && slices.Equal(a.Fired, b.Fired)
}

// step does something, to the screen and to the world, and tells what both answered.
func step(rnd *rand.Rand, s *panes.Screen, w *world, most int) (string, any, any) {
	n := rnd.Intn(w.c.Clients+2) - 1
	switch roll := rnd.Intn(60); {
	case roll == 0:
		return "P7: Disconnect", s.Disconnect(n), w.disconnect(n)
	case roll < 5:
		got, e := s.Connect()
		want, f := w.connect()
		return "P7: Connect", []int{got, int(e)}, []int{want, int(f)}
	case roll < 40:
		var m *model
		if n >= 0 && n < w.c.Clients {
			m = w.clients[n]
		}
		ops := worldOps(rnd, w.c, m)
		return "P8: Submit", s.Submit(n, ops), w.submit(n, ops)
	}
	budget := rnd.Intn(most + 1)
	got, e := s.Tick(budget)
	if want := w.tick(budget); e != api.OK || !same(got, want) {
		return "P9: Tick", got, want
	}
	return "P10: Front", s.Front(), w.shown
}

// TestP11World holds all calls, of screens of many sizes, against the world.
func TestP11World(t *testing.T) {
	for seed := range int64(500) {
		rnd := rand.New(rand.NewSource(seed))
		c, most := worldConfig(rnd), 1+rnd.Intn(1+rnd.Intn(60))
		s, w := screen(t, c, 0), newWorld(c)
		for i := range 300 {
			if what, got, want := step(rnd, s, w, most); !reflect.DeepEqual(got, want) {
				t.Fatalf("%s: seed %d, step %d, %+v: %v, want %v", what, seed, i, c, got, want)
			}
		}
	}
}

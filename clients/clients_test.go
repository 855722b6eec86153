package clients

import (
	"reflect"
	"slices"
	"testing"

	"panes/api"
)

func limits() api.Config {
	return api.Config{W: 4, H: 2, Clients: 2, Queue: 3, Most: 40, Quantum: 40, Surfaces: 2, Behind: 9}
}

func create(n int) api.Op { return api.Op{Kind: api.Create, Surface: n} }

func ask(mark int) api.Op { return api.Op{Kind: api.Ask, Mark: mark} }

func attach(n, w, h, pixel int) api.Op {
	return api.Op{Kind: api.Attach, Surface: n, W: w, H: h, Pixels: slices.Repeat([]int{pixel}, w*h)}
}

func submit(t *testing.T, c *Client, want api.Errno, ops ...api.Op) {
	t.Helper()
	if e := c.Submit(ops, limits()); e != want {
		t.Errorf("P8: Submit(%+v) = %d, want %d", ops, e, want)
	}
}

func wantQueue(t *testing.T, c *Client, want ...Transaction) {
	t.Helper()
	if !reflect.DeepEqual(c.queue, want) {
		t.Errorf("P8: %+v waits, want %+v", c.queue, want)
	}
}

// TestP8Waits: what is taken waits behind the others, whole, with what it costs.
func TestP8Waits(t *testing.T) {
	c := &Client{}
	submit(t, c, api.OK, create(0), attach(0, 2, 3, 5), ask(77))
	submit(t, c, api.OK, ask(1), ask(2))
	submit(t, c, api.OK, attach(0, 1, 1, 6), attach(0, 8, 4, 7))
	wantQueue(t, c,
		Transaction{Ops: []api.Op{create(0), attach(0, 2, 3, 5), ask(77)}, Cost: 9},
		Transaction{Ops: []api.Op{ask(1), ask(2)}, Cost: 2},
		Transaction{Ops: []api.Op{attach(0, 1, 1, 6), attach(0, 8, 4, 7)}, Cost: 35})
}

// TestP14Refused: of what is refused nothing waits, and no surface is there or gone.
func TestP14Refused(t *testing.T) {
	c := &Client{}
	submit(t, c, api.OK, create(0))
	before := Client{queue: slices.Clone(c.queue), owned: c.owned}
	refused := [][]api.Op{
		{},
		{create(1), create(1)},
		{create(1), {Kind: 9}},
		{{Kind: api.Destroy}, attach(0, 1, 1, 1)},
		{create(1), attach(1, 8, 5, 1)},
		slices.Repeat([]api.Op{ask(1)}, api.MaxOps+1),
	}
	for _, ops := range refused {
		submit(t, c, api.ErrInvalid, ops...)
		if !reflect.DeepEqual(*c, before) {
			t.Fatalf("P14: Submit(%+v), refused, left %+v, want %+v", ops, *c, before)
		}
	}
	submit(t, c, api.OK, ask(1))
	submit(t, c, api.OK, ask(2))
	before = Client{queue: slices.Clone(c.queue), owned: c.owned}
	submit(t, c, api.ErrBusy, create(1))
	submit(t, c, api.ErrBusy, api.Op{Kind: api.Destroy})
	for _, ops := range refused {
		submit(t, c, api.ErrInvalid, ops...)
	}
	if !reflect.DeepEqual(*c, before) {
		t.Errorf("P14: a full queue became %+v, want %+v", *c, before)
	}
}

// TestP2Kept: no list that is handed in is kept, and none is written into, nor its spare room.
func TestP2Kept(t *testing.T) {
	c := &Client{}
	pixels := []int{1, 2, 3, 4, 88, 88}
	whole := []api.Op{create(0), {Kind: api.Attach, W: 2, H: 2, Pixels: pixels[:4]}, ask(5), {Kind: 77}, {Kind: 77}}
	pixelsBefore, wholeBefore := slices.Clone(pixels), slices.Clone(whole)
	submit(t, c, api.OK, whole[:3]...)
	if !slices.Equal(pixels, pixelsBefore) || !reflect.DeepEqual(whole, wholeBefore) {
		t.Fatalf("P2: written into what was handed in: %v, %v", whole, pixels)
	}
	want := Transaction{Ops: []api.Op{create(0), {Kind: api.Attach, W: 2, H: 2, Pixels: []int{1, 2, 3, 4}}, ask(5)}, Cost: 7}
	clear(pixels)
	clear(whole)
	wantQueue(t, c, want)
}

// TestP2OneList: two operations with the same pixels do not share them either, nor do two transactions.
func TestP2OneList(t *testing.T) {
	c := &Client{}
	pixels := []int{3}
	ops := []api.Op{create(0), {Kind: api.Attach, W: 1, H: 1, Pixels: pixels}, {Kind: api.Attach, W: 1, H: 1, Pixels: pixels}}
	submit(t, c, api.OK, ops...)
	submit(t, c, api.OK, ops[1:]...)
	c.queue[0].Ops[1].Pixels[0] = 4
	if a, b := c.queue[0].Ops[2].Pixels[0], c.queue[1].Ops[0].Pixels[0]; a != 3 || b != 3 || pixels[0] != 3 {
		t.Errorf("P2: pixels are shared: %d, %d, %d", a, b, pixels[0])
	}
}

// TestP2NotLookedAt: pixels that a kind has not are not kept, however many.
func TestP2NotLookedAt(t *testing.T) {
	many := make([]int, 100000)
	for _, kind := range []int{api.Create, api.Move, api.Raise, api.Lower, api.Slide, api.Destroy, api.Ask} {
		c := &Client{}
		var ops []api.Op
		if kind != api.Create {
			ops = append(ops, create(0))
		}
		ops = append(ops, api.Op{Kind: kind, W: 1, Pixels: many})
		submit(t, c, api.OK, ops...)
		for _, op := range c.queue[0].Ops {
			if op.Pixels != nil {
				t.Errorf("P2: kind %d keeps %d pixels", kind, len(op.Pixels))
			}
		}
	}
}

func wantAdmitted(t *testing.T, c *Client, quantum, credit int, marks ...int) {
	t.Helper()
	var got []int
	for _, a := range c.Admit(quantum) {
		got = append(got, a.Ops[0].Mark)
	}
	if !slices.Equal(got, marks) || c.credit != credit {
		t.Errorf("P9: %v admitted, with a credit of %d left; want %v and %d", got, c.credit, marks, credit)
	}
}

// TestP9Admit: the first one first, as far as the credit goes; what is left of it stays as long as something waits.
func TestP9Admit(t *testing.T) {
	c := &Client{}
	wantAdmitted(t, c, 40, 0)
	submit(t, c, api.OK, ask(1), ask(1), ask(1))
	submit(t, c, api.OK, ask(2), ask(2), ask(2), ask(2))
	submit(t, c, api.OK, ask(3))
	wantAdmitted(t, c, 5, 2, 1)
	submit(t, c, api.OK, ask(4), ask(4))
	submit(t, c, api.ErrBusy, ask(5))
	wantAdmitted(t, c, 3, 0, 2, 3)
	wantAdmitted(t, c, 1, 1)
	wantAdmitted(t, c, 4, 0, 4)
	wantAdmitted(t, c, 4, 0)
	submit(t, c, api.OK, ask(6), ask(6))
	wantAdmitted(t, c, 1, 1)
	wantQueue(t, c, Transaction{Ops: []api.Op{ask(6), ask(6)}, Cost: 2})
}

// TestP8Admitted: what is admitted makes room, and leaves the surfaces as they are when all that waits is done.
func TestP8Admitted(t *testing.T) {
	c := &Client{}
	for n := range 2 {
		submit(t, c, api.OK, create(n))
	}
	c.Admit(1)
	submit(t, c, api.ErrInvalid, create(0))
	submit(t, c, api.ErrInvalid, create(1))
	submit(t, c, api.OK, api.Op{Kind: api.Destroy})
	submit(t, c, api.OK, create(0))
	submit(t, c, api.ErrBusy, ask(1))
	c.Admit(40)
	submit(t, c, api.ErrInvalid, create(0))
	submit(t, c, api.OK, api.Op{Kind: api.Raise})
}

// TestP9NotKept: nothing that was admitted is kept.
func TestP9NotKept(t *testing.T) {
	c := &Client{}
	submit(t, c, api.OK, create(0), attach(0, 2, 2, 5))
	submit(t, c, api.OK, attach(0, 2, 2, 6))
	submit(t, c, api.OK, attach(0, 5, 5, 7))
	c.Admit(11)
	for _, room := range c.queue[len(c.queue):cap(c.queue)] {
		if room.Ops != nil {
			t.Errorf("%+v is kept", room)
		}
	}
	wantQueue(t, c, Transaction{Ops: []api.Op{attach(0, 5, 5, 7)}, Cost: 26})
}

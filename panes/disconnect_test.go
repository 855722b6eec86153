package panes_test

import (
	"math"
	"testing"

	"panes/api"
	"panes/panes"
)

func wantDisconnect(t *testing.T, s *panes.Screen, client int, want api.Errno) {
	t.Helper()
	if e := s.Disconnect(client); e != want {
		t.Fatalf("P7: Disconnect(%d) = %d, want %d", client, e, want)
	}
}

func TestP7DisconnectWho(t *testing.T) {
	s := screen(t, great(), 2)
	for _, n := range []int{2, 3, 4, -1, math.MinInt, math.MaxInt, 1 << 32, -1 << 32} {
		wantDisconnect(t, s, n, api.ErrInvalid)
	}
	wantSubmit(t, s, 0, api.OK, ask(1))
	wantDisconnect(t, s, 0, api.OK)
	wantDisconnect(t, s, 0, api.ErrInvalid)
	wantSubmit(t, s, 0, api.ErrInvalid, ask(1))
	wantSubmit(t, s, 1, api.OK, ask(1))
	wantDisconnect(t, s, 1, api.OK)
	wantDisconnect(t, s, 1, api.ErrInvalid)
}

// TestP7Least: the least number that none has, wherever there is a gap.
func TestP7Least(t *testing.T) {
	s := screen(t, great(), 4)
	wantMany(t, s)
	for _, c := range [][]int{{0}, {3}, {1, 2}, {0, 2}, {0, 1, 2, 3}} {
		for i := range c {
			wantDisconnect(t, s, c[len(c)-1-i], api.OK)
		}
		for _, n := range c {
			wantConnected(t, s, n)
		}
		wantMany(t, s)
	}
}

// TestP7Anew: whoever gets the number has nothing of the one before.
func TestP7Anew(t *testing.T) {
	s := screen(t, small(), 2)
	wantSubmit(t, s, 0, api.OK, create(0), pixels(5), slide(0, 1, 0, 20))
	s.Tick(9)
	wantSubmit(t, s, 0, api.OK, create(1), ask(1))
	wantSubmit(t, s, 0, api.OK, ask(2))
	wantSubmit(t, s, 0, api.ErrBusy, ask(2))
	wantDisconnect(t, s, 0, api.OK)
	wantConnected(t, s, 0)
	wantSubmit(t, s, 0, api.ErrInvalid, raise(0))
	wantSubmit(t, s, 0, api.ErrInvalid, raise(1))
	wantSubmit(t, s, 0, api.OK, create(0))
	wantSubmit(t, s, 0, api.OK, createAt(1, 3, 0), filled(1, 1, 1, 6))
	wantSubmit(t, s, 0, api.ErrBusy, ask(1))
	for range 4 {
		s.Tick(99)
	}
	wantFront(t, s, 9, 9, 9, 6, 9, 9, 9, 9)
}

// TestP7Queue: what waits is never admitted.
func TestP7Queue(t *testing.T) {
	s := screen(t, small(), 2)
	wantSubmit(t, s, 0, api.OK, create(0), pixels(5), ask(1))
	wantDisconnect(t, s, 0, api.OK)
	wantReport(t, s, 9, api.Report{Tick: 1, Admitted: []int{0, 0}})
	wantConnected(t, s, 0)
	wantReport(t, s, 9, api.Report{Tick: 2, Admitted: []int{0, 0}})
	wantFront(t, s, 9, 9, 9, 9, 9, 9, 9, 9)
}

// TestP7Credit: a client that is connected anew begins without credit.
func TestP7Credit(t *testing.T) {
	c := small()
	c.Most, c.Quantum, c.Queue = 4, 5, 8
	s := screen(t, c, 1)
	waiting := func() {
		for range 4 {
			wantSubmit(t, s, 0, api.OK, ask(1), ask(2), ask(3), ask(4))
		}
	}
	waiting()
	for n := 1; n <= 3; n++ {
		wantTick(t, s, 0, [4]int{n, min(1, n-1), 0, 1}, [][]int{nil, {1, 2, 3, 4}, {1, 2, 3, 4}}[n-1]...)
	}
	wantDisconnect(t, s, 0, api.OK) // with a credit of 3
	wantConnected(t, s, 0)
	waiting()
	wantTick(t, s, 0, [4]int{4, 1, 0, 1}) // 5, 1 left
	wantTick(t, s, 0, [4]int{5, 1, 0, 1}, 1, 2, 3, 4)
}

// TestP7Damage: its surfaces are gone as by Destroy: what they covered is stale, and that is a reason for a frame.
func TestP7Damage(t *testing.T) {
	c := great()
	c.W, c.H, c.Clients = 6, 2, 2
	s := screen(t, c, 2)
	wantSubmit(t, s, 0, api.OK, create(0), filled(0, 3, 1, 5), createAt(1, 1, 0), filled(1, 1, 2, 6), createAt(2, -9, 0), filled(2, 1, 1, 7))
	wantSubmit(t, s, 1, api.OK, createAt(0, 2, 0), filled(0, 2, 1, 8), createAt(1, 5, 1))
	settle(t, s)
	wantFront(t, s, 5, 6, 8, 8, 1, 1, 1, 6, 1, 1, 1, 1)
	wantDisconnect(t, s, 0, api.OK)
	wantFront(t, s, 5, 6, 8, 8, 1, 1, 1, 6, 1, 1, 1, 1)
	wantReport(t, s, 99, api.Report{Tick: 7, Painted: 4, Admitted: []int{0, 0}})
	wantReport(t, s, 99, api.Report{Tick: 8, Flip: 1, Admitted: []int{0, 0}})
	wantFront(t, s, 1, 1, 8, 8, 1, 1, 1, 1, 1, 1, 1, 1)
	wantSubmit(t, s, 1, api.OK, filled(1, 1, 1, 4))
	wantReport(t, s, 99, api.Report{Tick: 9, Painted: 5, Admitted: []int{0, 1}})
}

// TestP7NoDamage: without a buffer, or beyond the output, nothing is damaged, and no frame begun.
func TestP7NoDamage(t *testing.T) {
	s := screen(t, small(), 1)
	wantSubmit(t, s, 0, api.OK, create(0), createAt(1, 4, 0), filled(1, 2, 1, 5))
	wantTick(t, s, 9, [4]int{1, 0, 0, 1})
	wantTick(t, s, 9, [4]int{2, 1, 0, 0})
	wantDisconnect(t, s, 0, api.OK)
	wantTick(t, s, 9, [4]int{3, 0, 0, 0})
	wantTick(t, s, 9, [4]int{4, 0, 0, 0})
}

// TestP7Frame: a frame that was begun goes on, with the picture of its moment, but without the client's marks.
func TestP7Frame(t *testing.T) {
	s := screen(t, small(), 2)
	wantSubmit(t, s, 0, api.OK, create(0), pixels(5, 5), ask(1))
	wantSubmit(t, s, 1, api.OK, createAt(0, 0, 1), pixels(6), ask(2), ask(3))
	wantSubmit(t, s, 0, api.OK, ask(4))
	wantReport(t, s, 1, api.Report{Tick: 1, Painted: 1, Admitted: []int{2, 1}})
	wantSubmit(t, s, 0, api.OK, ask(5))
	wantSubmit(t, s, 1, api.OK, ask(6))
	wantReport(t, s, 1, api.Report{Tick: 2, Painted: 1, Admitted: []int{1, 1}})
	wantDisconnect(t, s, 0, api.OK)
	wantConnected(t, s, 0)
	wantSubmit(t, s, 0, api.OK, ask(7))
	wantReport(t, s, 1, api.Report{Tick: 3, Painted: 1, Admitted: []int{1, 0}})
	wantReport(t, s, 99, api.Report{Tick: 4, Flip: 1, Painted: 3, Admitted: []int{0, 0}, Fired: []api.Fired{{Client: 1, Mark: 2}, {Client: 1, Mark: 3}}})
	wantFront(t, s, 5, 5, 9, 9, 6, 9, 9, 9)
	wantReport(t, s, 0, api.Report{Tick: 5, Flip: 1, Admitted: []int{0, 0}, Fired: []api.Fired{{Client: 1, Mark: 6}, {Client: 0, Mark: 7}}})
	wantFront(t, s, 9, 9, 9, 9, 6, 9, 9, 9)
}

// TestP7Whole: the marks of a frame that is whole, but not yet shown, are gone too.
func TestP7Whole(t *testing.T) {
	s := screen(t, small(), 2)
	wantSubmit(t, s, 0, api.OK, ask(1))
	wantSubmit(t, s, 1, api.OK, ask(2))
	wantReport(t, s, 0, api.Report{Tick: 1, Admitted: []int{1, 1}})
	wantDisconnect(t, s, 1, api.OK)
	wantReport(t, s, 0, api.Report{Tick: 2, Flip: 1, Admitted: []int{0, 0}, Fired: []api.Fired{{Client: 0, Mark: 1}}})
	wantReport(t, s, 0, api.Report{Tick: 3, Admitted: []int{0, 0}})
}

// TestP7Admitted: that a transaction was admitted stays a reason for a frame, though its client is gone.
func TestP7Admitted(t *testing.T) {
	s := screen(t, small(), 2)
	wantSubmit(t, s, 1, api.OK, create(0), pixels(5))
	wantTick(t, s, 0, [4]int{1, 0, 0, 0})
	wantSubmit(t, s, 0, api.OK, ask(1))
	wantTick(t, s, 1, [4]int{2, 0, 1, 1})
	wantDisconnect(t, s, 0, api.OK)
	wantTick(t, s, 0, [4]int{3, 1, 0, 0})
	wantTick(t, s, 1, [4]int{4, 0, 1, 0})
	wantTick(t, s, 1, [4]int{5, 1, 0, 0})
	wantTick(t, s, 1, [4]int{6, 0, 0, 0})
}

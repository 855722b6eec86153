package panes_test

import (
	"math"
	"testing"

	"panes/api"
	"panes/panes"
)

func small() api.Config {
	return api.Config{W: 4, H: 2, Clients: 2, Queue: 2, Most: 20, Quantum: 20, Surfaces: 2, Behind: 9}
}

// great is a configuration that bounds a transaction by nothing but MaxOps and MaxCost.
func great() api.Config {
	return api.Config{W: 16, H: 16, Clients: 4, Queue: 8, Most: 300, Quantum: 600, Surfaces: 4, Behind: 1}
}

// screen makes a screen with so many clients.
func screen(t *testing.T, c api.Config, clients int) *panes.Screen {
	t.Helper()
	s, e := panes.New(c)
	if s == nil || e != api.OK {
		t.Fatalf("P6: New(%+v) = %v, %d", c, s, e)
	}
	for want := range clients {
		wantConnected(t, s, want)
	}
	return s
}

func wantConnected(t *testing.T, s *panes.Screen, want int) {
	t.Helper()
	if n, e := s.Connect(); n != want || e != api.OK {
		t.Fatalf("P7: Connect() = %d, %d; want %d, 0", n, e, want)
	}
}

func wantMany(t *testing.T, s *panes.Screen) {
	t.Helper()
	if n, e := s.Connect(); n != 0 || e != api.ErrMany {
		t.Fatalf("P7: Connect() = %d, %d; want 0, %d", n, e, api.ErrMany)
	}
}

// configBound is one number of a configuration, and its bounds.
type configBound struct {
	name        string
	of          func(c *api.Config) *int
	least, most int
}

func configBounds() []configBound {
	return []configBound{
		{"W", func(c *api.Config) *int { return &c.W }, 1, 16},
		{"H", func(c *api.Config) *int { return &c.H }, 1, 16},
		{"Clients", func(c *api.Config) *int { return &c.Clients }, 1, 4},
		{"Queue", func(c *api.Config) *int { return &c.Queue }, 1, 8},
		{"Most", func(c *api.Config) *int { return &c.Most }, 1, 300},
		{"Quantum", func(c *api.Config) *int { return &c.Quantum }, 20, 600},
		{"Surfaces", func(c *api.Config) *int { return &c.Surfaces }, 1, 4},
		{"Behind", func(c *api.Config) *int { return &c.Behind }, 1, 4294967295},
	}
}

// wantConfig asks for a screen, and tells whether it may be had.
func wantConfig(t *testing.T, what string, c api.Config, ok bool) {
	t.Helper()
	s, e := panes.New(c)
	if ok && (s == nil || e != api.OK) || !ok && (s != nil || e != api.ErrConfig) {
		t.Errorf("P6: %s: New(%+v) = %v, %d", what, c, s, e)
	}
}

func TestP6New(t *testing.T) {
	wantConfig(t, "ordinary", small(), true)
	wantConfig(t, "nothing", api.Config{}, false)
	for _, b := range configBounds() {
		for _, c := range []struct {
			n  int
			ok bool
		}{
			{b.least - 1, false}, {b.least, true}, {b.least + 1, true}, {b.most - 1, true}, {b.most, true}, {b.most + 1, false},
			{-b.least, false}, {-b.most, false}, {math.MinInt, false}, {math.MaxInt, false}, {1 << 32, false}, {1<<32 + b.least, false},
		} {
			config := small()
			*b.of(&config) = c.n
			if b.name == "Most" && c.n > 0 {
				config.Quantum = 600
			}
			wantConfig(t, b.name, config, c.ok)
		}
	}
}

func TestP6AllBounds(t *testing.T) {
	var least, most api.Config
	for _, b := range configBounds() {
		*b.of(&least), *b.of(&most) = b.least, b.most
	}
	wantConfig(t, "all greatest", most, true)
	wantConfig(t, "all least but Quantum", least, true)
	least.Quantum = 1
	wantConfig(t, "all least", least, true)
	for _, b := range configBounds() {
		*b.of(&most)++
	}
	wantConfig(t, "all too great", most, false)
}

// TestP6Quantum: it is held against the configuration's own Most.
func TestP6Quantum(t *testing.T) {
	for _, most := range []int{1, 2, 150, 299, 300} {
		c := small()
		c.Most = most
		for _, q := range []struct {
			n  int
			ok bool
		}{{most - 1, false}, {most, true}, {most + 1, true}, {600, true}, {601, false}} {
			c.Quantum = q.n
			wantConfig(t, "Quantum", c, q.ok)
		}
	}
	c := small()
	c.Most, c.Quantum = 301, 301
	wantConfig(t, "Most", c, false)
	c.Most, c.Quantum = math.MaxInt, math.MaxInt
	wantConfig(t, "Most", c, false)
	c.Most, c.Quantum = 0, 0
	wantConfig(t, "Most", c, false)
	c.Most, c.Quantum = math.MinInt, math.MinInt
	wantConfig(t, "Most", c, false)
}

// TestP6Empty: a new screen has no client, and one that is connected has no surface.
func TestP6Empty(t *testing.T) {
	s := screen(t, small(), 0)
	for n := -1; n <= api.MaxClients; n++ {
		wantSubmit(t, s, n, api.ErrInvalid, ask(1))
	}
	wantConnected(t, s, 0)
	for n := range 2 {
		wantSubmit(t, s, 0, api.ErrInvalid, api.Op{Kind: api.Raise, Surface: n})
	}
}

func TestP7Connect(t *testing.T) {
	for clients := 1; clients <= api.MaxClients; clients++ {
		c := small()
		c.Clients = clients
		s := screen(t, c, 0)
		for n := range clients {
			wantSubmit(t, s, n, api.ErrInvalid, ask(1))
			wantConnected(t, s, n)
			wantSubmit(t, s, n, api.OK, ask(1))
		}
		wantMany(t, s)
		wantMany(t, s)
		wantSubmit(t, s, clients, api.ErrInvalid, ask(1))
	}
}

// TestP7Fresh: each client begins with an empty queue and no surfaces, whatever the others have.
func TestP7Fresh(t *testing.T) {
	s := screen(t, small(), 1)
	wantSubmit(t, s, 0, api.OK, create(0))
	wantSubmit(t, s, 0, api.OK, create(1))
	wantSubmit(t, s, 0, api.ErrBusy, ask(1))
	wantConnected(t, s, 1)
	wantSubmit(t, s, 1, api.ErrInvalid, api.Op{Kind: api.Raise})
	wantSubmit(t, s, 1, api.OK, create(0))
	wantSubmit(t, s, 1, api.OK, create(1))
	wantSubmit(t, s, 1, api.ErrBusy, ask(1))
}

// TestP14Many: one client too many leaves all as it was.
func TestP14Many(t *testing.T) {
	s := screen(t, small(), 2)
	wantSubmit(t, s, 0, api.OK, create(0))
	wantSubmit(t, s, 1, api.OK, create(1))
	wantMany(t, s)
	wantSubmit(t, s, 0, api.ErrInvalid, create(0))
	wantSubmit(t, s, 0, api.OK, create(1))
	wantSubmit(t, s, 0, api.ErrBusy, ask(1))
	wantMany(t, s)
	wantSubmit(t, s, 1, api.ErrInvalid, create(1))
	wantSubmit(t, s, 1, api.OK, create(0))
	wantSubmit(t, s, 1, api.ErrBusy, ask(1))
}

// TestP2Screens: screens have nothing to do with one another.
func TestP2Screens(t *testing.T) {
	a, b := screen(t, small(), 2), screen(t, great(), 0)
	wantMany(t, a)
	wantConnected(t, b, 0)
	wantSubmit(t, a, 0, api.OK, create(0))
	wantSubmit(t, b, 0, api.OK, create(0))
	wantSubmit(t, a, 0, api.OK, ask(1))
	wantSubmit(t, a, 0, api.ErrBusy, ask(1))
	wantSubmit(t, b, 0, api.OK, ask(1))
	wantSubmit(t, b, 0, api.OK, attach(0, 8, 8))
	wantSubmit(t, a, 0, api.ErrInvalid, attach(0, 8, 8))
	wantSubmit(t, b, 1, api.ErrInvalid, ask(1))
	wantSubmit(t, a, 1, api.OK, ask(1))
}

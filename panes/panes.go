// Package panes: surfaces of several clients, laid over one another and shown frame by frame: see DOC.md.
package panes

import (
	"slices"

	"panes/api"
	"panes/bounds"
	"panes/clients"
	"panes/frames"
	"panes/region"
	"panes/scene"
)

// Canon tells the one right list for what some rectangles cover (P3).
func Canon(l []api.Rect) ([]api.Rect, api.Errno) { return combine(l, nil, region.Union) }

// Union tells what one list or the other covers (P4).
func Union(a, b []api.Rect) ([]api.Rect, api.Errno) { return combine(a, b, region.Union) }

// Intersect tells what both lists cover (P4).
func Intersect(a, b []api.Rect) ([]api.Rect, api.Errno) { return combine(a, b, region.Intersect) }

// Subtract tells what the first list covers, and the second one does not (P4).
func Subtract(a, b []api.Rect) ([]api.Rect, api.Errno) { return combine(a, b, region.Subtract) }

// Area tells how many pixels a list covers (P5).
func Area(l []api.Rect) (int, api.Errno) {
	if !region.Allowed(l) {
		return 0, api.ErrRect
	}
	return region.Area(l), api.OK
}

func combine(a, b []api.Rect, how func(a, b []api.Rect) []api.Rect) ([]api.Rect, api.Errno) {
	if !region.Allowed(a) || !region.Allowed(b) {
		return nil, api.ErrRect
	}
	return how(a, b), api.OK
}

// Screen shows surfaces.
type Screen struct {
	config  api.Config
	clients []*clients.Client // by their numbers; nil where none is connected
	scene   *scene.Scene
	frames  *frames.Frames
	ticks   int // how many there were
}

// New makes a screen (P6).
func New(c api.Config) (*Screen, api.Errno) {
	if !allowed(c) {
		return nil, api.ErrConfig
	}
	return &Screen{
		config:  c,
		clients: make([]*clients.Client, c.Clients),
		scene:   scene.New(c.Behind),
		frames:  frames.New(c.W, c.H, c.Behind),
	}, api.OK
}

func allowed(c api.Config) bool {
	return bounds.Within(c.W, 1, api.MaxSide) && bounds.Within(c.H, 1, api.MaxSide) &&
		bounds.Within(c.Clients, 1, api.MaxClients) && bounds.Within(c.Queue, 1, api.MaxQueue) &&
		bounds.Within(c.Most, 1, api.MaxCost) && bounds.Within(c.Quantum, c.Most, api.MaxQuantum) &&
		bounds.Within(c.Surfaces, 1, api.MaxSurfaces) && bounds.Within(c.Behind, 1, api.MaxPixel)
}

// Connect makes a client (P7).
func (s *Screen) Connect() (int, api.Errno) {
	free := slices.Index(s.clients, nil)
	if free < 0 {
		return 0, api.ErrMany
	}
	s.clients[free] = &clients.Client{}
	return free, api.OK
}

// Disconnect ends a client (P7).
func (s *Screen) Disconnect(client int) api.Errno {
	if !s.connected(client) {
		return api.ErrInvalid
	}
	s.clients[client] = nil
	s.frames.Damage(s.scene.Leave(client))
	s.frames.Forget(client)
	return api.OK
}

// Submit hands a transaction in (P8).
func (s *Screen) Submit(client int, ops []api.Op) api.Errno {
	if !s.connected(client) {
		return api.ErrInvalid
	}
	return s.clients[client].Submit(ops, s.config)
}

func (s *Screen) connected(client int) bool {
	return bounds.Within(client, 0, len(s.clients)-1) && s.clients[client] != nil
}

// Tick lets the time go on by one (P9).
func (s *Screen) Tick(budget int) (report api.Report, errno api.Errno) {
	if budget < 0 {
		return api.Report{}, api.ErrInvalid
	}
	painting := frames.NewBudget(budget)
	// Painting ends with the budget, or with the frame, or is not begun: what it came to is told in any case.
	defer func() { report.Painted = painting.End() }()
	s.ticks++
	report.Tick = s.ticks
	report.Flip, report.Fired = s.frames.Flip()
	s.frames.Damage(s.scene.Slide())
	report.Admitted = s.admit()
	s.frames.Begin(s.ticks, s.scene.At)
	s.frames.Paint(painting)
	return report, api.OK
}

// admit does what each client's credit is enough for, and tells how many transactions that were.
func (s *Screen) admit() []int {
	admitted := make([]int, len(s.clients))
	for n, c := range s.clients {
		if c == nil {
			continue
		}
		for _, t := range c.Admit(s.config.Quantum) {
			s.do(n, t.Ops)
			admitted[n]++
		}
	}
	return admitted
}

// do does a transaction. It asks for a frame even if nothing is damaged: its marks must be told.
func (s *Screen) do(client int, ops []api.Op) {
	s.frames.Request()
	for _, op := range ops {
		if op.Kind == api.Ask {
			s.frames.Ask(api.Fired{Client: client, Mark: op.Mark})
			continue
		}
		s.frames.Damage(s.scene.Do(client, op))
	}
}

// Front tells the pixels that are shown, row by row (P10).
func (s *Screen) Front() []int { return s.frames.Front() }

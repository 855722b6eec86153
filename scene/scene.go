// Package scene: the surfaces of all clients, laid over one another.
package scene

import (
	"slices"

	"panes/api"
)

// key: a surface is known by its client and its number.
type key struct {
	client, number int
}

// Scene has surfaces, and what is seen where none of them is.
type Scene struct {
	surfaces map[key]*surface
	order    []key // the lowest first
	behind   int
}

// New makes a scene without surfaces.
func New(behind int) *Scene {
	return &Scene{surfaces: map[key]*surface{}, behind: behind}
}

// At tells a pixel of the picture: that of the highest surface that is not clear there.
func (s *Scene) At(x, y int) int {
	for _, k := range slices.Backward(s.order) {
		if pixel := s.surfaces[k].at(x, y); pixel != 0 {
			return pixel
		}
	}
	return s.behind
}

// Do does an operation on a surface of a client, one that Submit allowed, and tells what it damages. It keeps the operation's pixels.
func (s *Scene) Do(client int, op api.Op) []api.Rect {
	k := key{client, op.Surface}
	return s.damage(k, func() bool { return s.change(k, op) })
}

// Slide lets every surface that slides go on by a step, the lowest first, and tells what that damages.
func (s *Scene) Slide() []api.Rect {
	var damage []api.Rect
	for _, k := range s.order {
		damage = append(damage, s.damage(k, s.surfaces[k].goOn)...)
	}
	return damage
}

// Leave takes all surfaces of a client away, the lowest first, and tells what that damages.
func (s *Scene) Leave(client int) []api.Rect {
	var damage []api.Rect
	for _, k := range slices.Clone(s.order) {
		if k.client == client {
			damage = append(damage, s.Do(client, api.Op{Kind: api.Destroy, Surface: k.number})...)
		}
	}
	return damage
}

// damage tells what a surface covers before a change and after it, if there is a change that can be seen.
func (s *Scene) damage(k key, change func() bool) []api.Rect {
	before := s.covered(k)
	if !change() {
		return nil
	}
	after := s.covered(k)
	if after == before {
		return []api.Rect{before}
	}
	return []api.Rect{before, after}
}

// covered is without width and height where there is no such surface, or it has no buffer.
func (s *Scene) covered(k key) api.Rect {
	one := s.surfaces[k]
	if one == nil {
		return api.Rect{}
	}
	return api.Rect{X: one.place.x, Y: one.place.y, W: one.w, H: one.h}
}

// change does an operation, and tells whether it changes what can be seen of the surface, if it has a buffer.
func (s *Scene) change(k key, op api.Op) bool {
	one := s.surfaces[k]
	switch op.Kind {
	case api.Create:
		s.surfaces[k] = &surface{place: place{op.X, op.Y}}
		s.order = append(s.order, k)
	case api.Destroy:
		delete(s.surfaces, k)
		s.order = slices.DeleteFunc(s.order, func(other key) bool { return other == k })
		return true
	case api.Attach:
		one.w, one.h, one.pixels = op.W, op.H, op.Pixels
		return true
	case api.Move:
		one.slide = slide{}
		return one.move(place{op.X, op.Y})
	case api.Raise:
		return s.lay(k, len(s.order)-1)
	case api.Lower:
		return s.lay(k, 0)
	case api.Slide:
		one.slide = slide{step: place{op.X, op.Y}, left: op.W}
	}
	return false
}

// lay gives a surface a place in the order, and tells whether that is another one.
func (s *Scene) lay(k key, to int) bool {
	from := slices.Index(s.order, k)
	s.order = slices.Insert(slices.Delete(s.order, from, from+1), to, k)
	return from != to
}

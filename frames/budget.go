package frames

// Budget tells whoever paints when to stop: by a channel that is closed when so many pixels have been painted.
type Budget struct {
	left, spent int
	done        chan struct{} // closed as soon as nothing is left
}

// NewBudget makes a budget of so many pixels, 0 or more.
func NewBudget(pixels int) *Budget {
	b := &Budget{left: pixels, done: make(chan struct{})}
	if pixels == 0 {
		close(b.done)
	}
	return b
}

// spend counts a pixel; it is asked for only while something is left.
func (b *Budget) spend() {
	b.left--
	b.spent++
	if b.left == 0 {
		close(b.done)
	}
}

// End lets nothing more be painted, and tells how much was.
func (b *Budget) End() int {
	if b.left > 0 {
		b.left = 0
		close(b.done)
	}
	return b.spent
}

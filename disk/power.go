package disk

// power is whether changes still happen; its zero value is up, and not armed.
type power struct {
	down  bool
	armed bool
	left  int // how many changes still happen, if it is armed
}

// arm lets it go behind n changes more, or never, if n is below 0.
func (p *power) arm(n int) {
	p.armed, p.left = n >= 0, n
}

// up: is it there?
func (p *power) up() bool {
	return !p.down
}

// spend: is it there for one change more?
func (p *power) spend() bool {
	if p.armed && p.left == 0 {
		p.down = true
	}
	if p.down {
		return false
	}
	if p.armed {
		p.left--
	}
	return true
}

// restore gives it back, and it isn't armed any more.
func (p *power) restore() {
	*p = power{}
}

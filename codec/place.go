package codec

// place is where in some bytes the next field begins.
type place struct {
	at int
}

// pass goes on behind the next bytes, and tells where they begin.
func (p *place) pass(many int) int {
	from := p.at
	p.at += many
	return from
}

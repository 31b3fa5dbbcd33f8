package codec

import (
	"strings"

	"saltus/api"
)

// The kinds of fields.
const (
	numberKind = 'n'
	textKind   = 't'
)

// reader is the fields that bytes tell ahead of its place. A field that they do not tell leaves the place where it begins.
type reader struct {
	place
	bytes  string
	fields []api.Field
}

// field appends the next field, of a kind that is one, or tells that it is not there.
func (r *reader) field(kind byte) bool {
	if kind == textKind {
		return r.text()
	}
	return r.number()
}

func (r *reader) number() bool {
	if !r.has(numberSize) {
		return false
	}
	r.fields = append(r.fields, api.Field{N: r.low(numberSize)})
	return true
}

func (r *reader) text() bool {
	if !r.has(lengthSize) {
		return false
	}
	ahead := r.place
	many := int(r.low(lengthSize))
	if many > api.MaxText || !r.has(many) {
		r.place = ahead
		return false
	}
	from := r.pass(many)
	// Cloned, so that a short text does not keep a long record.
	r.fields = append(r.fields, api.Field{Text: true, S: strings.Clone(r.bytes[from:r.at])})
	return true
}

// low is the number that so many bytes tell, the lowest first.
func (r *reader) low(many int) uint64 {
	var n uint64
	for i := range many {
		n |= uint64(r.bytes[r.pass(1)]) << (8 * i)
	}
	return n
}

// has tells whether there are so many bytes more.
func (r *reader) has(many int) bool { return many <= len(r.bytes)-r.at }

// done tells whether there are no more bytes.
func (r *reader) done() bool { return r.at == len(r.bytes) }

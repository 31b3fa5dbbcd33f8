package codec

import "saltus/api"

// How many bytes a number has, and what tells how many a text has.
const (
	numberSize = 8
	lengthSize = 2
)

// writer is a record's bytes, of which those ahead of its place are filled. They are made at once, so that a long record is not copied while it grows.
type writer struct {
	place
	bytes []byte
}

func newWriter(size int) *writer {
	return &writer{bytes: make([]byte, size)}
}

// sizeOf is how many bytes a field has.
func sizeOf(f api.Field) int {
	if f.Text {
		return lengthSize + len(f.S)
	}
	return numberSize
}

// field appends a field, whose text is not too long.
func (w *writer) field(f api.Field) {
	if f.Text {
		w.text(f.S)
		return
	}
	w.number(f.N)
}

func (w *writer) number(n uint64) {
	w.low(n, numberSize)
}

func (w *writer) text(s string) {
	w.low(uint64(len(s)), lengthSize)
	copy(w.bytes[w.pass(len(s)):], s)
}

// low appends a number's lowest bytes, the lowest first.
func (w *writer) low(n uint64, many int) {
	for range many {
		w.bytes[w.pass(1)] = byte(n)
		n >>= 8
	}
}

// told are the bytes.
func (w *writer) told() string { return string(w.bytes) }

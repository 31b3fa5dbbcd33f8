package ghash

import "iter"

// blockSize is how many bytes a block has.
const blockSize = 16

// blocks are the blocks of a head and a text, as polynomials.
func blocks(head, text string) iter.Seq[polynomial] {
	return func(yield func(polynomial) bool) {
		for _, s := range [...]string{head, text} {
			for p := range filled(s) {
				if !yield(p) {
					return
				}
			}
		}
		yield(polynomial{bitsOf(head), bitsOf(text)})
	}
}

// filled are the blocks of one text, with bytes 0 behind it.
func filled(s string) iter.Seq[polynomial] {
	return func(yield func(polynomial) bool) {
		for len(s) > 0 {
			size := min(len(s), blockSize)
			if !yield(polynomialOf(s[:size])) {
				return
			}
			s = s[size:]
		}
	}
}

// bitsOf is how many bits a text has.
func bitsOf(s string) uint64 { return uint64(len(s)) * 8 }

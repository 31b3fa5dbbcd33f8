package ghash

// wordSize is how many bits a word has.
const wordSize = 64

// polynomial is a block's polynomial, as two words: the highest bit of the first one is that of x to the power of 0.
type polynomial [2]uint64

// polynomialOf is the polynomial of a block, whose bytes that are not there are 0.
func polynomialOf(block string) polynomial {
	var p polynomial
	for i := range len(block) {
		p[i/8] |= uint64(block[i]) << shiftOf(i)
	}
	return p
}

// told is the block of a polynomial.
func (p polynomial) told() string {
	var block [blockSize]byte
	for i := range block {
		block[i] = byte(p[i/8] >> shiftOf(i))
	}
	return string(block[:])
}

// shiftOf is how many bits of its word are behind a block's byte.
func shiftOf(i int) int { return wordSize - 8 - i%8*8 }

// plus is two polynomials' sum.
func (p polynomial) plus(q polynomial) polynomial {
	return polynomial{p[0] ^ q[0], p[1] ^ q[1]}
}

// times is two polynomials' product.
func (p polynomial) times(q polynomial) polynomial {
	// Words of their own: those of an array go through memory with each bit, which takes ten times as long and more.
	var first, second uint64
	a, b := p[0], p[1]
	for _, bits := range q {
		for range wordSize {
			taken := allOf(bits >> (wordSize - 1))
			first, second = first^a&taken, second^b&taken
			a, b = raised(a, b)
			bits <<= 1
		}
	}
	return polynomial{first, second}
}

// raised are the words of a polynomial times x.
func raised(first, second uint64) (uint64, uint64) {
	// x^128 is left out, which a polynomial has no bit for: a shift loses it.
	const divisor = 0xe1 << (wordSize - 8)
	lost := allOf(second & 1)
	return first>>1 ^ divisor&lost, first<<(wordSize-1) | second>>1
}

// allOf is a word, each bit of which is this one.
func allOf(bit uint64) uint64 { return -bit }

package sha

import "math/bits"

// The sizes: of a state, and of what a block is spread to, in words; of a block, of a word, and of what tells how long a text is, in bytes.
const (
	stateWords = 8
	rounds     = 64
	blockSize  = 64
	wordSize   = 4
	lengthSize = 8
)

// state is what some blocks have been mixed to.
type state [stateWords]uint32

// keys are a number for each round.
type keys [rounds]uint32

func firstState() state {
	var s state
	for i, p := range primes(len(s)) {
		s[i] = squareRoot(p)
	}
	return s
}

func newKeys() keys {
	var k keys
	for i, p := range primes(len(k)) {
		k[i] = cubeRoot(p)
	}
	return k
}

// mixed is a state mixed with a block. The keys are handed in, so that they are made once for all blocks of a text.
func (s state) mixed(block string, k *keys) state {
	w := spread(block)
	a, b, c, d, e, f, g, h := s[0], s[1], s[2], s[3], s[4], s[5], s[6], s[7]
	for t := range rounds {
		t1 := h + (ror(e, 6) ^ ror(e, 11) ^ ror(e, 25)) + (e&f ^ ^e&g) + k[t] + w[t]
		t2 := (ror(a, 2) ^ ror(a, 13) ^ ror(a, 22)) + (a&b ^ a&c ^ b&c)
		h, g, f, e, d, c, b, a = g, f, e, d+t1, c, b, a, t1+t2
	}
	next := state{a, b, c, d, e, f, g, h}
	for i := range next {
		next[i] += s[i]
	}
	return next
}

// spread is a block's words, and those made of them, one for each round.
func spread(block string) [rounds]uint32 {
	var w [rounds]uint32
	const own = blockSize / wordSize
	for t := range own {
		w[t] = word(block[t*wordSize:])
	}
	for t := own; t < rounds; t++ {
		x, y := w[t-15], w[t-2]
		s0 := ror(x, 7) ^ ror(x, 18) ^ x>>3
		s1 := ror(y, 17) ^ ror(y, 19) ^ y>>10
		w[t] = s1 + w[t-7] + s0 + w[t-16]
	}
	return w
}

// word is the number that the first 4 bytes tell, the highest first.
func word(b string) uint32 {
	return uint32(b[0])<<24 | uint32(b[1])<<16 | uint32(b[2])<<8 | uint32(b[3])
}

// told are the words' bytes, the highest of each first.
func (s state) told() string {
	b := make([]byte, 0, stateWords*wordSize)
	for _, w := range s {
		b = append(b, byte(w>>24), byte(w>>16), byte(w>>8), byte(w))
	}
	return string(b)
}

// ror is a word turned right by n bits.
func ror(w uint32, n int) uint32 { return bits.RotateLeft32(w, -n) }

package aes

import "saltus/field"

// wordSize is how many bytes a word has.
const wordSize = 4

// word is 4 bytes of a key, or a block's column.
type word [wordSize]byte

// wordOf is the first word of a text.
func wordOf(s string) word {
	var w word
	copy(w[:], s)
	return w
}

func (w word) xor(other word) word {
	for i, b := range other {
		w[i] ^= b
	}
	return w
}

func (w word) boxed(boxes []byte) word {
	for i, b := range w {
		w[i] = boxes[b]
	}
	return w
}

// turned has the first byte behind the others.
func (w word) turned() word {
	return word{w[1], w[2], w[3], w[0]}
}

// mixed is a column mixed: each row has 2 times its own byte, 3 times the next one, and the others, round and round.
func (w word) mixed() word {
	var m word
	for row := range m {
		a, b, c, d := w[row], w[(row+1)%wordSize], w[(row+2)%wordSize], w[(row+3)%wordSize]
		m[row] = field.Mul(a, 2) ^ field.Mul(b, 3) ^ c ^ d
	}
	return m
}

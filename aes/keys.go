package aes

import "saltus/field"

// The sizes of keys, in bytes.
const (
	shortKey = 16
	longKey  = 32
)

// longWords is how many words a long key has.
const longWords = longKey / wordSize

// moreKeys is how many more round keys there are than words of the key.
const moreKeys = 7

// isKey tells whether a text is as long as a key.
func isKey(s string) bool { return len(s) == shortKey || len(s) == longKey }

// roundKeys are a key's words, made to as many as all rounds need, a grid for each round.
func roundKeys(key string, boxes []byte) []grid {
	rounds := len(key)/wordSize + moreKeys
	words := keyWords(key, rounds*columns, boxes)
	keys := make([]grid, rounds)
	for i := range keys {
		copy(keys[i][:], words[i*columns:])
	}
	return keys
}

// keyWords are the key's own words, and those made of them, so many in all.
func keyWords(key string, many int, boxes []byte) []word {
	words := make([]word, 0, many)
	for rest := key; rest != ""; rest = rest[wordSize:] {
		words = append(words, wordOf(rest))
	}
	own := len(words)
	for i := own; i < many; i++ {
		words = append(words, words[i-own].xor(words[i-1].scrambled(i, own, boxes)))
	}
	return words
}

// scrambled is the word ahead of word i, as word i is made of it, by a key of so many words of its own.
func (w word) scrambled(i, own int, boxes []byte) word {
	switch {
	case i%own == 0:
		w = w.turned().boxed(boxes)
		w[0] ^= field.Pow(2, i/own-1)
	case own == longWords && i%own == longWords/2:
		w = w.boxed(boxes)
	}
	return w
}

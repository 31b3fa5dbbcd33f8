package gcm

import "saltus/aes"

// blockSize is how many bytes a block has.
const blockSize = 16

// stream is the bytes of a key's and a nonce's stream that are not taken yet. A block is encrypted only when its first byte is taken.
type stream struct {
	key, nonce string
	next       uint32
	block      string
}

// streamOf is a stream from a counter block's number on, of a key and a nonce that fit.
func streamOf(key, nonce string, from uint32) *stream {
	return &stream{key: key, nonce: nonce, next: from}
}

// xored is a byte, xor-ed with the stream's first one, which is taken.
func (s *stream) xored(b byte) byte {
	if s.block == "" {
		s.fill()
	}
	b ^= s.block[0]
	s.block = s.block[1:]
	return b
}

// fill makes the next counter block, encrypted, the one whose bytes are taken.
func (s *stream) fill() {
	// No error is told: the key fits, and so does the block.
	s.block, _ = aes.Encrypt(s.key, s.nonce+told(s.next))
	s.next++
}

// told are a number's 4 bytes, the highest first.
func told(n uint32) string {
	return string([]byte{byte(n >> 24), byte(n >> 16), byte(n >> 8), byte(n)})
}

package mac

import (
	"strings"

	"saltus/sha"
)

// keySize is how many bytes a key is fitted to.
const keySize = 64

// What each byte of a key that is fitted is xor-ed with.
const (
	innerMask = 54
	outerMask = 92
)

// keys are the two that one key is made to.
type keys struct {
	inner, outer string
}

func keysOf(key string) keys {
	whole := fitted(key)
	masked := func(mask byte) string {
		b := whole
		for i := range b {
			b[i] ^= mask
		}
		return string(b[:])
	}
	return keys{inner: masked(innerMask), outer: masked(outerMask)}
}

// fitted is a key, or its sum if it is too long, and bytes 0 behind it.
func fitted(key string) [keySize]byte {
	if len(key) > keySize {
		key = sha.Sum(key)
	}
	var whole [keySize]byte
	copy(whole[:], key)
	return whole
}

// tag is a text's tag.
func (k keys) tag(s string) string {
	return sha.Sum(joined(k.outer, sha.Sum(joined(k.inner, s))))
}

// joined is texts, one behind the other.
func joined(texts ...string) string { return strings.Join(texts, "") }

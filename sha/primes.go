package sha

import (
	"iter"
	"math/bits"
)

// primes are the first so many primes, each with how many are less.
func primes(many int) iter.Seq2[int, uint32] {
	return func(yield func(int, uint32) bool) {
		less := make([]uint32, 0, many)
		for n := uint32(2); len(less) < many; n++ {
			if hasFactor(n, less) {
				continue
			}
			if !yield(len(less), n) {
				return
			}
			less = append(less, n)
		}
	}
}

// hasFactor tells whether one of the primes that are less than a number divides it.
func hasFactor(n uint32, less []uint32) bool {
	for _, p := range less {
		// Of two factors, one is not more than the root.
		if p*p > n {
			return false
		}
		if n%p == 0 {
			return true
		}
	}
	return false
}

// rootBits is how many bits a root times 2^32 has: those of the primes that are asked for are less than 8.
const rootBits = 3 + 32

// squareRoot is what a prime's square root has behind the point, times 2^32, rounded down.
func squareRoot(prime uint32) uint32 {
	return behindPoint(func(r uint64) bool {
		// r times r is held against the prime times 2^64; they are never the same, since no prime is a square.
		high, _ := bits.Mul64(r, r)
		return high < uint64(prime)
	})
}

// cubeRoot is what a prime's cube root has behind the point, times 2^32, rounded down.
func cubeRoot(prime uint32) uint32 {
	return behindPoint(func(r uint64) bool {
		// r, three times, is held against the prime times 2^96; no prime is a cube.
		high, low := bits.Mul64(r, r)
		over, _ := bits.Mul64(low, r)
		return high*r+over < uint64(prime)<<32
	})
}

// behindPoint is the lowest 32 bits of the greatest number that is less than a root times 2^32.
func behindPoint(isLess func(r uint64) bool) uint32 {
	root := uint64(0)
	for bit := uint64(1) << (rootBits - 1); bit > 0; bit >>= 1 {
		if isLess(root | bit) {
			root |= bit
		}
	}
	return uint32(root)
}

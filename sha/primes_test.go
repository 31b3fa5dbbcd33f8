package sha

import (
	"math/big"
	"slices"
	"testing"
)

// P3.1: the primes are the first 8, 2 to 19, and the first 64, 2 to 311.
func TestPrimes(t *testing.T) {
	var l []uint32
	for i, p := range primes(rounds) {
		if i != len(l) {
			t.Errorf("%v is told as place %v, want %v", p, i, len(l))
		}
		l = append(l, p)
	}
	var want []uint32
	for n := range uint32(312) {
		if big.NewInt(int64(n)).ProbablyPrime(0) {
			want = append(want, n)
		}
	}
	if !slices.Equal(l, want) || len(l) != 64 || l[stateWords-1] != 19 {
		t.Errorf("%v, want %v", l, want)
	}
}

// An iterator that is left must not go on: Go would tell that by a panic.
func TestPrimesMayBeLeft(t *testing.T) {
	var l []uint32
	for _, p := range primes(10) {
		if p == 5 {
			break
		}
		l = append(l, p)
	}
	if !slices.Equal(l, []uint32{2, 3}) {
		t.Error(l)
	}
}

func TestNoPrimes(t *testing.T) {
	for i, p := range primes(0) {
		t.Error(i, p)
	}
}

package field_test

import (
	"math"
	"testing"

	"saltus/field"
)

// The tests here hold the calls against the chapter's words, told in another way: a polynomial is its coefficients, that of x to the power of i at place i, and is divided as polynomials are.

// polynomial has room for a product of two bytes.
type polynomial [15]int

func of(a byte) polynomial {
	var p polynomial
	for i := range 8 {
		p[i] = int(a) / (1 << i) % 2
	}
	return p
}

func (p polynomial) told() byte {
	var a byte
	for i := range 8 {
		if p[i] == 1 {
			a += 1 << i
		}
	}
	return a
}

func (p polynomial) times(q polynomial) polynomial {
	var product polynomial
	for i := range 8 {
		for j := range 8 {
			product[i+j] = (product[i+j] + p[i]*q[j]) % 2
		}
	}
	return product
}

// left is what is left of it, divided by x^8 + x^4 + x^3 + x + 1.
func (p polynomial) left() polynomial {
	for top := len(p) - 1; top >= 8; top-- {
		if p[top] == 0 {
			continue
		}
		for _, i := range []int{8, 4, 3, 1, 0} {
			p[top-8+i] = (p[top-8+i] + 1) % 2
		}
	}
	return p
}

func product(a, b byte) byte { return of(a).times(of(b)).left().told() }

// each has f see each byte.
func each(f func(a byte)) {
	for a := range 256 {
		f(byte(a))
	}
}

// P5.1

func TestMulOfEachPair(t *testing.T) {
	each(func(a byte) {
		each(func(b byte) {
			if m, want := field.Mul(a, b), product(a, b); m != want {
				t.Errorf("Mul(%#x, %#x) = %#x, want %#x", a, b, m, want)
			}
		})
	})
}

// inverses are the bytes whose product with one is 1.
func inverses(a byte) []byte {
	var l []byte
	each(func(b byte) {
		if product(a, b) == 1 {
			l = append(l, b)
		}
	})
	return l
}

func TestInvOfEachByte(t *testing.T) {
	each(func(a byte) {
		l := inverses(a)
		if a == 0 {
			l = append(l, 0)
		}
		if len(l) != 1 || field.Inv(a) != l[0] {
			t.Errorf("Inv(%#x) = %#x, want %#x", a, field.Inv(a), l)
		}
	})
}

// powers are a byte's powers 0, 1 and so on, each told by one product more than the one ahead, and from where on they come again.
func powers(a byte) ([]byte, int) {
	seen := map[byte]int{}
	var l []byte
	for now := byte(1); ; now = product(now, a) {
		if from, ok := seen[now]; ok {
			return l, from
		}
		seen[now] = len(l)
		l = append(l, now)
	}
}

// power is a power out of those that powers tells.
func power(l []byte, from, n int) byte {
	if n < len(l) {
		return l[max(n, 0)]
	}
	return l[from+(n-from)%(len(l)-from)]
}

func TestPowOfEachByte(t *testing.T) {
	edges := []int{math.MinInt, math.MinInt + 1, math.MinInt32, math.MaxInt, math.MaxInt - 1, math.MaxInt32, math.MaxUint32}
	for bit := range 63 {
		edges = append(edges, -1<<bit, 1<<bit-1, 1<<bit, 1<<bit+1, math.MaxInt-1<<bit)
	}
	each(func(a byte) {
		l, from := powers(a)
		check := func(n int) {
			if p, want := field.Pow(a, n), power(l, from, n); p != want {
				t.Errorf("Pow(%#x, %v) = %#x, want %#x", a, n, p, want)
			}
		}
		for n := -300; n < 1000; n++ {
			check(n)
		}
		for _, n := range edges {
			check(n)
		}
	})
}

// box is a byte's box, told bit by bit.
func box(a byte) byte {
	inverse := of(0)
	if a != 0 {
		inverse = of(inverses(a)[0])
	}
	other := of(99)
	var p polynomial
	for i := range 8 {
		p[i] = (inverse[i] + inverse[(i+4)%8] + inverse[(i+5)%8] + inverse[(i+6)%8] + inverse[(i+7)%8] + other[i]) % 2
	}
	return p.told()
}

func TestBoxOfEachByte(t *testing.T) {
	boxes := field.Boxes()
	if len(boxes) != 256 {
		t.Fatalf("%v boxes", len(boxes))
	}
	each(func(a byte) {
		want := box(a)
		if b := field.Box(a); b != want {
			t.Errorf("Box(%#x) = %#x, want %#x", a, b, want)
		}
		if boxes[a] != want {
			t.Errorf("box %#x of Boxes is %#x, want %#x", a, boxes[a], want)
		}
	})
}

// P5.2

// products are all that Mul tells.
func products() *[256][256]byte {
	var all [256][256]byte
	each(func(a byte) {
		each(func(b byte) { all[a][b] = field.Mul(a, b) })
	})
	return &all
}

func TestProductsDoNotHangOnOrder(t *testing.T) {
	mul := products()
	each(func(a byte) {
		each(func(b byte) {
			if mul[a][b] != mul[b][a] {
				t.Errorf("Mul(%#x, %#x) = %#x, and %#x the other way round", a, b, mul[a][b], mul[b][a])
			}
			each(func(c byte) {
				if mul[mul[a][b]][c] != mul[a][mul[b][c]] {
					t.Fatalf("of %#x, %#x and %#x: two products", a, b, c)
				}
			})
		})
	})
}

func TestProductsAreSpreadOverSums(t *testing.T) {
	mul := products()
	each(func(a byte) {
		each(func(b byte) {
			each(func(c byte) {
				if mul[a][b^c] != mul[a][b]^mul[a][c] {
					t.Fatalf("%#x times the sum of %#x and %#x is %#x", a, b, c, mul[a][b^c])
				}
			})
		})
	})
}

func TestAByteTimesItsInverse(t *testing.T) {
	each(func(a byte) {
		want := byte(1)
		if a == 0 {
			want = 0
		}
		if m := field.Mul(a, field.Inv(a)); m != want {
			t.Errorf("%#x times its inverse is %#x", a, m)
		}
		if again := field.Inv(field.Inv(a)); again != a {
			t.Errorf("the inverse of the inverse of %#x is %#x", a, again)
		}
	})
}

func TestNoTwoBytesHaveOneBox(t *testing.T) {
	seen := map[byte]byte{}
	each(func(a byte) {
		b := field.Box(a)
		if other, ok := seen[b]; ok {
			t.Errorf("%#x and %#x have one box, %#x", other, a, b)
		}
		seen[b] = a
		if b == a {
			t.Errorf("%#x is its own box", a)
		}
	})
}

// P1 and P5.1: powers end without a panic, and are as they are told, at all arguments.
func FuzzPow(f *testing.F) {
	f.Add(byte(0), 0)
	f.Add(byte(2), -1)
	f.Add(byte(3), math.MaxInt)
	f.Add(byte(255), math.MinInt)
	f.Fuzz(func(t *testing.T, a byte, n int) {
		l, from := powers(a)
		if p, want := field.Pow(a, n), power(l, from, n); p != want {
			t.Fatalf("Pow(%#x, %v) = %#x, want %#x", a, n, p, want)
		}
	})
}

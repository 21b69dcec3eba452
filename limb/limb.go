// Package limb is layer 1: numbers of four limbs. See shared/doc/01-limb.md.
package limb

import (
	"math/bits"

	"chronicle/api"
)

// limbBits is how many bits a limb has.
const limbBits = 64

// Add answers a + b modulo 2^256, and whether the sum is 2^256 or more.
func Add(a, b api.Nat) (api.Nat, bool) {
	var sum api.Nat
	var carry uint64
	for i := range sum {
		sum[i], carry = bits.Add64(a[i], b[i], carry)
	}
	return sum, carry == 1
}

// Sub answers a - b modulo 2^256, and whether b is greater than a.
func Sub(a, b api.Nat) (api.Nat, bool) {
	var rest api.Nat
	var borrow uint64
	for i := range rest {
		rest[i], borrow = bits.Sub64(a[i], b[i], borrow)
	}
	return rest, borrow == 1
}

// Cmp answers -1, 0 or 1, as a is less than, the same as, or greater than b.
func Cmp(a, b api.Nat) int {
	// The greatest limb in which they differ settles it, so it is asked first.
	for i := len(a) - 1; i >= 0; i-- {
		if a[i] < b[i] {
			return -1
		}
		if a[i] > b[i] {
			return 1
		}
	}
	return 0
}

// Mul answers a * b.
func Mul(a, b api.Nat) api.Wide {
	var product api.Wide
	for i := range a {
		var carry uint64
		for j := range b {
			carry, product[i+j] = mulAdd(a[i], b[j], product[i+j], carry)
		}
		product[i+len(b)] = carry
	}
	return product
}

// mulAdd answers x*y + c + d as two limbs, the upper one first.
func mulAdd(x, y, c, d uint64) (hi, lo uint64) {
	// (2^64-1)^2 + 2*(2^64-1) is 2^128 - 1, so the upper limb never runs over.
	var carry uint64
	hi, lo = bits.Mul64(x, y)
	lo, carry = bits.Add64(lo, c, 0)
	hi += carry
	lo, carry = bits.Add64(lo, d, 0)
	hi += carry
	return hi, lo
}

// Pick answers a, if c holds, else b.
func Pick(c bool, a, b api.Nat) api.Nat {
	if c {
		return a
	}
	return b
}

// Bit answers the bit of a that stands for 2^i, and 0 of an i outside 0 to 255.
func Bit(a api.Nat, i int) int {
	if i < 0 || i >= len(a)*limbBits {
		return 0
	}
	return int(a[i/limbBits] >> (i % limbBits) & 1)
}

// Half answers a / 2, rounded down.
func Half(a api.Nat) api.Nat {
	var half api.Nat
	var dropped uint64
	// From the top down: the bit that a limb drops is the top one of the limb below.
	for i := len(a) - 1; i >= 0; i-- {
		half[i] = a[i]>>1 | dropped<<(limbBits-1)
		dropped = a[i] & 1
	}
	return half
}

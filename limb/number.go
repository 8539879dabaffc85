package limb

import (
	"math/bits"

	"demurral/api"
)

// number is four words, the lowest first: 0 to 2^256 - 1. Methods take and answer any number that leaves the right thing; only tell brings it below p, so that long works are not slowed by it.
type number [4]uint64

// prime is p, 2^255 - 19.
var prime = number{1<<64 - 19, 1<<64 - 1, 1<<64 - 1, 1<<63 - 1}

// What 2^255 and 2^256 leave.
const (
	half  = 19
	whole = 38
)

func read(s string) (number, api.Errno) {
	if len(s) != api.Size {
		return number{}, api.ErrSize
	}
	return number{wordOf(s[:8]), wordOf(s[8:16]), wordOf(s[16:24]), wordOf(s[24:])}, api.OK
}

// wordOf is written out, and not a loop, since the compiler then loads all eight bytes at once.
func wordOf(s string) uint64 {
	return uint64(s[0]) | uint64(s[1])<<8 | uint64(s[2])<<16 | uint64(s[3])<<24 |
		uint64(s[4])<<32 | uint64(s[5])<<40 | uint64(s[6])<<48 | uint64(s[7])<<56
}

func (n number) tell() string {
	n = n.left()
	var out [api.Size]byte
	for i, word := range n {
		for j := range 8 {
			out[8*i+j] = byte(word >> (8 * j))
		}
	}
	return string(out[:])
}

// left is n modulo p. The highest bit is worth half, so that without it at most p + 37 stays, and p goes once at most.
func (n number) left() number {
	high := n[3] >> 63
	n[3] &= 1<<63 - 1
	n, _ = sum(n, number{half * high})
	less, borrow := difference(n, prime)
	return choose(borrow, n, less)
}

// plus has no carry: both are below p.
func (n number) plus(b number) number {
	out, _ := sum(n.left(), b.left())
	return out
}

// minus adds p ahead of taking b away, so that nothing is borrowed.
func (n number) minus(b number) number {
	rest, _ := difference(prime, b.left())
	return n.plus(rest)
}

func (n number) times(b number) number { return fold(product(n, b)) }

// inverse is n to the power p - 2: by Fermat n times it leaves 1, and 0 stays 0.
func (n number) inverse() number {
	exponent, _ := difference(prime, number{2})
	return n.power(exponent)
}

// power squares n once for each bit of the exponent, the lowest first.
func (n number) power(exponent number) number {
	out := number{1}
	for _, word := range exponent {
		for i := range 64 {
			if word>>i&1 == 1 {
				out = out.times(n)
			}
			n = n.times(n)
		}
	}
	return out
}

// sum is a + b in four words, and the carry out of the highest.
func sum(a, b number) (number, uint64) {
	var carry uint64
	for i := range a {
		a[i], carry = bits.Add64(a[i], b[i], carry)
	}
	return a, carry
}

// difference is a - b in four words, and the borrow out of the highest.
func difference(a, b number) (number, uint64) {
	var borrow uint64
	for i := range a {
		a[i], borrow = bits.Sub64(a[i], b[i], borrow)
	}
	return a, borrow
}

// choose is a if bit is 1, b if it is 0; a mask and no branch, so that the time it takes tells nothing of a key.
func choose(bit uint64, a, b number) number {
	mask := -bit
	for i := range a {
		a[i] = a[i]&mask | b[i]&^mask
	}
	return a
}

// product is a times b, all of its words.
func product(a, b number) [8]uint64 {
	var out [8]uint64
	for i := range a {
		var carry uint64
		for j := range b {
			out[i+j], carry = multiplyAdd(a[i], b[j], out[i+j], carry)
		}
		out[i+4] = carry
	}
	return out
}

// fold brings eight words to four, by what 2^256 leaves. The first carry is at most whole; if the second is 1, hardly anything stays in the words, so that there is no third.
func fold(wide [8]uint64) number {
	var n number
	var carry uint64
	for i := range n {
		n[i], carry = multiplyAdd(wide[i+4], whole, wide[i], carry)
	}
	n, carry = sum(n, number{whole * carry})
	n, _ = sum(n, number{whole * carry})
	return n
}

// multiplyAdd is x times y, and a and b, by its low word and its high one: two words hold it at the most, 2^128 - 1.
func multiplyAdd(x, y, a, b uint64) (uint64, uint64) {
	high, low := bits.Mul64(x, y)
	low, carry := bits.Add64(low, a, 0)
	high += carry
	low, carry = bits.Add64(low, b, 0)
	return low, high + carry
}

// Package limb is layer 1: see shared/doc/01-limb.md.
package limb

import "demurral/api"

// Norm is what is left of a number.
func Norm(a string) (string, api.Errno) {
	n, why := read(a)
	if why != api.OK {
		return "", why
	}
	return n.tell(), api.OK
}

// Add is what is left of the sum.
func Add(a, b string) (string, api.Errno) { return ofTwo(a, b, number.plus) }

// Sub is what is left of the difference.
func Sub(a, b string) (string, api.Errno) { return ofTwo(a, b, number.minus) }

// Mul is what is left of the product.
func Mul(a, b string) (string, api.Errno) { return ofTwo(a, b, number.times) }

// Inv is the number whose product with a leaves 1, or 0 if nothing is left of a.
func Inv(a string) (string, api.Errno) {
	n, why := read(a)
	if why != api.OK {
		return "", why
	}
	return n.inverse().tell(), api.OK
}

func ofTwo(a, b string, work func(a, b number) number) (string, api.Errno) {
	first, why := read(a)
	if why != api.OK {
		return "", why
	}
	second, why := read(b)
	if why != api.OK {
		return "", why
	}
	return work(first, second).tell(), api.OK
}

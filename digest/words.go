package digest

import "math/bits"

const (
	manyWords  = 8
	blockSize  = 64 // bytes that are mixed in at once
	lengthSize = 8  // bytes that tell how long a text is
)

// words are the 8 words of a sum on its way.
type words [manyWords]uint32

// firstWords are of the square roots of the first 8 primes.
var firstWords = words{0x6a09e667, 0xbb67ae85, 0x3c6ef372, 0xa54ff53a, 0x510e527f, 0x9b05688c, 0x1f83d9ab, 0x5be0cd19}

// keys are of the cube roots of the first 64 primes.
var keys = [64]uint32{
	0x428a2f98, 0x71374491, 0xb5c0fbcf, 0xe9b5dba5, 0x3956c25b, 0x59f111f1, 0x923f82a4, 0xab1c5ed5,
	0xd807aa98, 0x12835b01, 0x243185be, 0x550c7dc3, 0x72be5d74, 0x80deb1fe, 0x9bdc06a7, 0xc19bf174,
	0xe49b69c1, 0xefbe4786, 0x0fc19dc6, 0x240ca1cc, 0x2de92c6f, 0x4a7484aa, 0x5cb0a9dc, 0x76f988da,
	0x983e5152, 0xa831c66d, 0xb00327c8, 0xbf597fc7, 0xc6e00bf3, 0xd5a79147, 0x06ca6351, 0x14292967,
	0x27b70a85, 0x2e1b2138, 0x4d2c6dfc, 0x53380d13, 0x650a7354, 0x766a0abb, 0x81c2c92e, 0x92722c85,
	0xa2bfe8a1, 0xa81a664b, 0xc24b8b70, 0xc76c51a3, 0xd192e819, 0xd6990624, 0xf40e3585, 0x106aa070,
	0x19a4c116, 0x1e376c08, 0x2748774c, 0x34b0bcb5, 0x391c0cb3, 0x4ed8aa4a, 0x5b9cca4f, 0x682e6ff3,
	0x748f82ee, 0x78a5636f, 0x84c87814, 0x8cc70208, 0x90befffa, 0xa4506ceb, 0xbef9a3f7, 0xc67178f2,
}

func read(list []uint32) words {
	var w words
	copy(w[:], list)
	return w
}

// list is new memory at every call: w is the method's own copy.
func (w words) list() []uint32 { return w[:] }

func (w words) tell() string {
	out := make([]byte, 0, 4*manyWords)
	for _, word := range w {
		out = append(out, byte(word>>24), byte(word>>16), byte(word>>8), byte(word))
	}
	return string(out)
}

// mixedAll is the words mixed with every whole block of the text, and the bytes that are left.
func (w words) mixedAll(text string) (words, string) {
	for len(text) >= blockSize {
		w, text = w.mixed(text[:blockSize]), text[blockSize:]
	}
	return w, text
}

// mixed holds a to h apart from the array, since the compiler then keeps them in registers.
func (w words) mixed(block string) words {
	plan := spread(block)
	a, b, c, d, e, f, g, h := w[0], w[1], w[2], w[3], w[4], w[5], w[6], w[7]
	for t := range plan {
		t1 := h + (ror(e, 6) ^ ror(e, 11) ^ ror(e, 25)) + (e&f ^ ^e&g) + keys[t] + plan[t]
		t2 := (ror(a, 2) ^ ror(a, 13) ^ ror(a, 22)) + (a&b ^ a&c ^ b&c)
		a, b, c, d, e, f, g, h = t1+t2, a, b, c, d+t1, e, f, g
	}
	for i, word := range (words{a, b, c, d, e, f, g, h}) {
		w[i] += word
	}
	return w
}

// spread is the block's 16 words, and the 48 that are made of them.
func spread(block string) [64]uint32 {
	var w [64]uint32
	for t := range 16 {
		w[t] = wordOf(block[4*t : 4*t+4])
	}
	for t := 16; t < len(w); t++ {
		near := ror(w[t-2], 17) ^ ror(w[t-2], 19) ^ w[t-2]>>10
		far := ror(w[t-15], 7) ^ ror(w[t-15], 18) ^ w[t-15]>>3
		w[t] = near + w[t-7] + far + w[t-16]
	}
	return w
}

func wordOf(s string) uint32 {
	return uint32(s[0])<<24 | uint32(s[1])<<16 | uint32(s[2])<<8 | uint32(s[3])
}

func ror(w uint32, n int) uint32 { return bits.RotateLeft32(w, -n) }

package stream

const (
	manyWords = 16
	blockSize = 4 * manyWords
	rounds    = 10
)

// Where a block's words of each kind begin.
const (
	keyAt    = 4
	numberAt = 12
	nonceAt  = 13
)

// words are a block's.
type words [manyWords]uint32

// begin is what all blocks of a key and a nonce have at first; each puts its own number in.
func begin(key, nonce string) words {
	w := words{1634760805, 857760878, 2036477234, 1797285236}
	w.read(keyAt, key)
	w.read(nonceAt, nonce)
	return w
}

// read puts a text's words in, from a place on.
func (w *words) read(at int, s string) {
	for i := range len(s) / 4 {
		w[at+i] = wordOf(s[4*i : 4*i+4])
	}
}

// block leaves w as it is, so that the next block begins with the same words.
func (w words) block(n uint32) [blockSize]byte {
	w[numberAt] = n
	mixed := w
	mixed.mixAll()
	var out [blockSize]byte
	for i, word := range mixed {
		word += w[i]
		out[4*i], out[4*i+1], out[4*i+2], out[4*i+3] = byte(word), byte(word>>8), byte(word>>16), byte(word>>24)
	}
	return out
}

// mixAll sees the words as a square of four rows: its columns are mixed, and then its diagonals.
func (w *words) mixAll() {
	for range rounds {
		w.mix(0, 4, 8, 12)
		w.mix(1, 5, 9, 13)
		w.mix(2, 6, 10, 14)
		w.mix(3, 7, 11, 15)
		w.mix(0, 5, 10, 15)
		w.mix(1, 6, 11, 12)
		w.mix(2, 7, 8, 13)
		w.mix(3, 4, 9, 14)
	}
}

func (w *words) mix(a, b, c, d int) {
	w[a], w[b], w[c], w[d] = Quarter(w[a], w[b], w[c], w[d])
}

func wordOf(s string) uint32 {
	return uint32(s[0]) | uint32(s[1])<<8 | uint32(s[2])<<16 | uint32(s[3])<<24
}

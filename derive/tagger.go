package derive

import (
	"demurral/api"
	"demurral/digest"
)

const (
	blockSize = 64 // bytes that digest mixes in at once
	innerMask = 54
	outerMask = 92
)

// tagger is a key at work: two sums on their way, which have the key behind them already, so that many tags by a long key read it once.
type tagger struct {
	inner, outer api.Hash
}

func begin(key string) tagger {
	if len(key) > blockSize {
		key = digest.Of(key)
	}
	return tagger{inner: masked(key, innerMask), outer: masked(key, outerMask)}
}

// tag is that of texts, one behind the other.
func (t tagger) tag(texts ...string) string {
	return hashed(t.outer, hashed(t.inner, texts...))
}

// masked is the sum behind the key's block, each byte of it xor the mask. What New makes may be: no error can come.
func masked(key string, mask byte) api.Hash {
	var block [blockSize]byte
	copy(block[:], key)
	for i := range block {
		block[i] ^= mask
	}
	h, _ := digest.Write(digest.New(), string(block[:]))
	return h
}

// hashed is what the sum comes to behind texts, one behind the other. It is handed what masked made, which may be: no error can come.
func hashed(h api.Hash, texts ...string) string {
	for _, text := range texts {
		h, _ = digest.Write(h, text)
	}
	out, _ := digest.Sum(h)
	return out
}

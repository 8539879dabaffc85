package chain

import (
	"iter"

	"demurral/derive"
)

// The words by which steps are split, so that a root's and a chain's never come to the same keys.
const (
	rootWord = "root"
	stepWord = "step"
)

// steps are so many of a chain's, in order: of each the next chain, and a message's key.
func steps(chain string, many int) iter.Seq2[string, string] {
	return func(yield func(string, string) bool) {
		at := chain
		for range many {
			next, key := split(at, stepWord)
			if !yield(next, key) {
				return
			}
			at = next
		}
	}
}

// split is a secret split to two. A secret may be split to many more: no error can come.
func split(secret, word string) (string, string) {
	l, _ := derive.Split(secret, word, 2)
	return l[0], l[1]
}

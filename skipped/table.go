package skipped

import (
	"slices"

	"demurral/api"
)

// row is what a key is found by: no table has two that are the same.
type row struct {
	ratchet string
	n       uint64
}

func rowOf(k api.Kept) row { return row{k.Ratchet, k.N} }

// place is where a row stands in a table, or -1.
func place(l []api.Kept, r row) int {
	for i, k := range l {
		if rowOf(k) == r {
			return i
		}
	}
	return -1
}

func has(l []api.Kept, r row) bool { return place(l, r) >= 0 }

// hasAny tells whether one of the numbers from the first one on, ahead of the second one, is there. They are asked ahead of any filling, by which what is there might go.
func hasAny(l []api.Kept, ratchet string, from, to uint64) bool {
	for n := from; n < to; n++ {
		if has(l, row{ratchet, n}) {
			return true
		}
	}
	return false
}

// with is a table with a key behind it, without the first one if there is no room. It is cut so that it ends where its room does: the key comes to stand in new memory, not behind the table that was handed in.
func with(l []api.Kept, k api.Kept) []api.Kept {
	first := max(len(l)+1-api.MaxKept, 0)
	return append(l[first:len(l):len(l)], k)
}

func without(l []api.Kept, i int) []api.Kept { return slices.Concat(l[:i], l[i+1:]) }

// filled is a table with keys of a ratchet behind it, of which the first one has that number. Where there are no keys, it shares nothing with the table either.
func filled(l []api.Kept, ratchet string, from uint64, keys []string) []api.Kept {
	out := slices.Clone(l)
	for i, key := range keys {
		out = with(out, api.Kept{Ratchet: ratchet, N: from + uint64(i), Key: key})
	}
	return out
}

func isKey(s string) bool { return len(s) == api.Size }

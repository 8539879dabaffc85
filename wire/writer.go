package wire

import (
	"math/bits"

	"demurral/api"
)

// withNumber are bytes, and a number's behind them.
func withNumber(out []byte, n uint64) []byte {
	many := (bits.Len64(n) + 7) / 8
	out = append(out, byte(many))
	for i := range many {
		out = append(out, byte(n>>(8*(many-1-i))))
	}
	return out
}

// withPart are bytes, and a part's behind them.
func withPart(out []byte, p api.Part) []byte {
	if !p.Text {
		return withNumber(out, p.N)
	}
	return append(withNumber(out, uint64(len(p.S))), p.S...)
}

// fits tells whether a part can be packed. Of a number any can, whatever stands in its S.
func fits(p api.Part) bool { return !p.Text || len(p.S) <= api.MaxText }

package log

import (
	"iter"
	"strings"

	"demurral/api"
	"demurral/wire"
)

const (
	allOnes = 1<<32 - 1
	divisor = 3988292384
	crcSize = 4
)

// Crc is a text's crc, by which a torn or spoilt record is known.
func Crc(s string) uint32 {
	c := uint32(allOnes)
	for _, b := range []byte(s) {
		c ^= uint32(b)
		for range 8 {
			odd := c & 1
			c = c>>1 ^ divisor*odd
		}
	}
	return allOnes ^ c
}

func crcBytes(s string) string {
	c := Crc(s)
	return string([]byte{byte(c >> 24), byte(c >> 16), byte(c >> 8), byte(c)})
}

// records are those that stand whole in bytes, from the first byte on: each one's text, and where it ends.
func records(s string) iter.Seq2[string, int] {
	return func(yield func(string, int) bool) {
		end := 0
		for {
			text, size, ok := first(s[end:])
			if !ok {
				return
			}
			end += size
			if !yield(text, end) {
				return
			}
		}
	}
}

// first is the text of the record that bytes begin with, and how many bytes the record has. To wire the crc behind a text is more than there was to read, so its fault is where the text's bytes end, or at 0 if there is no text, or nothing behind it.
func first(s string) (string, int, bool) {
	_, end, _ := wire.Unpack(s, "t")
	textBytes, behind := s[:end], s[end:]
	l, _, why := wire.Unpack(textBytes, "t")
	if why != api.OK || !strings.HasPrefix(behind, crcBytes(textBytes)) {
		return "", 0, false
	}
	return l[0].S, end + crcSize, true
}

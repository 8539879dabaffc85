package wire

import (
	"strings"

	"demurral/api"
)

const (
	mostBytes = 8  // of a number
	mostTexts = 32 // of a kind `*`
)

// reader goes over bytes, from the first one on. What does not stand at its place leaves it there, so that the place is where the fault is.
type reader struct {
	bytes string
	place int
	parts []api.Part
}

// readers are the kinds: each is read by its method, which tells whether it stood there.
func readers() map[byte]func(*reader) bool {
	return map[byte]func(*reader) bool{
		'n': (*reader).number,
		't': (*reader).text,
		'*': (*reader).texts,
	}
}

func (r *reader) number() bool {
	n, end, ok := r.ahead()
	if !ok {
		return false
	}
	r.take(api.Part{N: n}, end)
	return true
}

// text is cloned, so that its few bytes don't hold the whole record in memory.
func (r *reader) text() bool {
	many, begin, ok := r.ahead()
	if !ok || many > api.MaxText || many > uint64(len(r.bytes)-begin) {
		return false
	}
	end := begin + int(many)
	r.take(api.Part{Text: true, S: strings.Clone(r.bytes[begin:end])}, end)
	return true
}

func (r *reader) texts() bool {
	many, end, ok := r.ahead()
	if !ok || many > mostTexts {
		return false
	}
	r.take(api.Part{N: many}, end)
	for range many {
		if !r.text() {
			return false
		}
	}
	return true
}

// take goes on behind a part.
func (r *reader) take(p api.Part, end int) {
	r.parts = append(r.parts, p)
	r.place = end
}

// ahead is the number that stands at the place, and where it ends. It stays at the place, since a number may be of a text that does not stand there.
func (r *reader) ahead() (uint64, int, bool) {
	rest := r.bytes[r.place:]
	if rest == "" {
		return 0, 0, false
	}
	many := int(rest[0])
	if many > mostBytes || many >= len(rest) {
		return 0, 0, false
	}
	digits := rest[1 : 1+many]
	if many > 0 && digits[0] == 0 {
		return 0, 0, false
	}
	var n uint64
	for _, digit := range []byte(digits) {
		n = n<<8 | uint64(digit)
	}
	return n, r.place + 1 + many, true
}

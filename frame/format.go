package frame

import "demurral/api"

// field is one of a frame's, by which formats and rows name it.
type field int

const (
	kind field = iota
	from
	to
	id
	identity
	base
	signed
	once
	ratchet
	prev
	place // N: where it is in its chain
	body
	keys // how many there are
	manyFields
)

// formats are, by Kind, the fields that a frame has, in the order of its bytes. Its head is all of them but the last one; Keys follow it, one by one.
var formats = [...][]field{
	api.FHello:  {kind, from, to, id, identity, base, signed, once, ratchet, prev, place, body},
	api.FText:   {kind, from, to, id, ratchet, prev, place, body},
	api.FReveal: {kind, from, to, id, keys},
}

func isKind(n int) bool { return 0 <= n && n < len(formats) }

// wireKinds are the kinds by which wire reads the bytes of frames of a Kind.
func wireKinds(which int) string {
	var out []byte
	for _, w := range formats[which] {
		out = append(out, w.wireKind())
	}
	return string(out)
}

func (w field) wireKind() byte {
	switch w {
	case identity, base, ratchet, body:
		return 't'
	case keys:
		return '*'
	}
	return 'n'
}

// fits tells whether a frame that has this field may have that part in it.
func (w field) fits(p api.Part) bool {
	switch w {
	case identity, base, ratchet:
		return isKey(p.S)
	case body:
		return len(p.S) <= api.MaxText
	case keys:
		return p.N <= api.MaxKeys
	}
	return true
}

func isKey(s string) bool { return len(s) == api.Size }

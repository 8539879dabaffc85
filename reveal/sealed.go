package reveal

import (
	"demurral/api"
	"demurral/frame"
	"demurral/lock"
)

// sealed is what a frame has of a text that was locked: the head, the bytes that hide the text, and the whole Body, in which the tag of both comes behind them.
type sealed struct {
	head, hidden, body string
}

func sealedIn(f api.Frame) (sealed, api.Errno) {
	head, why := frame.Head(f)
	end := len(f.Body) - api.Size
	switch {
	case why != api.OK || f.Kind == api.FReveal:
		return sealed{}, api.ErrArg
	case end < 0:
		return sealed{}, api.ErrSize
	}
	return sealed{head: head, hidden: f.Body[:end], body: f.Body}, api.OK
}

// coveredBy is the first of the keys that covers it, and whether there is one.
func (s sealed) coveredBy(keys []string) (string, bool) {
	var found string
each:
	for _, key := range keys {
		switch body, why := lock.Again(key, s.head, s.hidden); {
		case why != api.OK: // of another size: it covers nothing
			continue each
		case body == s.body:
			found = key
			break each
		}
	}
	return found, found != ""
}

// changed is the Body whose hidden bytes are others, by a key that covers it: there is no error, since as many bytes were tagged by it.
func (s sealed) changed(key string, other func(at int, b byte) byte) string {
	l := []byte(s.hidden)
	for i, b := range l {
		l[i] = other(i, b)
	}
	body, _ := lock.Again(key, s.head, string(l))
	return body
}

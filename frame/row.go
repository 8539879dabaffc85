package frame

import "demurral/api"

// row is a frame's fields, each as a part of its bytes: all that it has, but what its Keys are.
type row [manyFields]api.Part

func rowOf(f api.Frame) row {
	return row{
		kind:     number(uint64(f.Kind)),
		from:     number(f.From),
		to:       number(f.To),
		id:       number(f.Id),
		identity: text(f.Identity),
		base:     text(f.Base),
		signed:   number(f.Signed),
		once:     number(f.Once),
		ratchet:  text(f.Ratchet),
		prev:     number(f.Prev),
		place:    number(f.N),
		body:     text(f.Body),
		keys:     number(uint64(len(f.Keys))),
	}
}

func (r row) frame(told []string) api.Frame {
	return api.Frame{
		Kind:     int(r[kind].N),
		From:     r[from].N,
		To:       r[to].N,
		Id:       r[id].N,
		Identity: r[identity].S,
		Base:     r[base].S,
		Signed:   r[signed].N,
		Once:     r[once].N,
		Ratchet:  r[ratchet].S,
		Prev:     r[prev].N,
		N:        r[place].N,
		Body:     r[body].S,
		Keys:     told,
	}
}

func number(n uint64) api.Part { return api.Part{N: n} }

func text(s string) api.Part { return api.Part{Text: true, S: s} }

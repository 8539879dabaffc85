package session

import (
	"slices"

	"demurral/api"
	"demurral/chain"
	"demurral/frame"
	"demurral/ladder"
	"demurral/lock"
	"demurral/skipped"
)

// work is a session at work: it is changed in its place. Where it can't go on, it panics with the error's number, so that no step asks how the one ahead of it went.
type work struct {
	api.Session
}

// atWork has a session, with lists of its own, do something. What comes of it is told if all went well, and else the error alone. A panic that isn't an error's number is a fault of the program: it isn't hidden.
func atWork[T any](s api.Session, do func(*work) T) (next api.Session, told T, why api.Errno) {
	defer func() {
		switch thrown := recover().(type) {
		case nil:
		case api.Errno:
			why = thrown
		default:
			panic(thrown)
		}
	}()
	refuseIf(!Right(s), api.ErrArg)
	s.Kept, s.Used = slices.Clone(s.Kept), slices.Clone(s.Used)
	w := work{s}
	told = do(&w)
	return w.Session, told, api.OK
}

func refuseIf(wrong bool, why api.Errno) {
	if wrong {
		panic(why)
	}
}

// sure is what a layer below tells, if there is no error beside it.
func sure[T any](told T, why api.Errno) T {
	refuseIf(why != api.OK, why)
	return told
}

// surePair is the same of two things.
func surePair[A, B any](first A, second B, why api.Errno) (A, B) {
	refuseIf(why != api.OK, why)
	return first, second
}

// seal is the frame of a text. The frame's own Ratchet, Prev, N and Body aren't asked: others come in their place ahead of the head, which finds whether the rest may be.
func (w *work) seal(f api.Frame, text string) api.Frame {
	f.Ratchet, f.Prev, f.N, f.Body = sure(ladder.Base(w.Own)), w.Prev, w.Sent, ""
	head := sure(frame.Head(f))
	refuseIf(len(text) > mostText, api.ErrSize)
	refuseIf(w.Send == "", api.ErrState)
	f.Body = sure(lock.Lock(step(&w.Send), head, text))
	f.Keys = nil // there are none, but a list of none would be the argument's
	w.Sent++
	return f
}

// open is the text of a frame.
func (w *work) open(f api.Frame, fresh string) string {
	head := sure(frame.Head(f))
	refuseIf(f.Kind == api.FReveal, api.ErrArg)
	refuseIf(!isKey(fresh) || len(f.Body) < api.Size, api.ErrSize)
	key := w.keyOf(f, fresh)
	text := sure(lock.Open(key, head, f.Body))
	w.use(key)
	return text
}

// keyOf is the message's key of a frame. One that was kept is taken, wherever the ratchet is by now.
func (w *work) keyOf(f api.Frame, fresh string) string {
	if key, left, why := skipped.Take(w.Kept, f.Ratchet, f.N); why == api.OK {
		w.Kept = left
		return key
	}
	if f.Ratchet != w.Peer {
		w.turn(f, fresh)
	}
	return w.come(f.N)
}

// turn goes on to the ratchet of a frame: what still may come of the chain so far is kept, and both chains begin anew.
func (w *work) turn(f api.Frame, fresh string) {
	if w.Recv != "" {
		w.leaveOut(f.Prev)
	}
	w.Peer = f.Ratchet
	w.Recv = w.turned()
	w.Prev, w.Sent, w.Got = w.Sent, 0, 0
	w.Own = fresh
	w.Send = w.turned()
}

// turned is the chain of the root's step with the point times the own key.
func (w *work) turned() string {
	shared := sure(ladder.Mult(w.Own, w.Peer))
	root, begun := surePair(chain.Root(w.Root, shared))
	w.Root = root
	return begun
}

// come is the message's key of a number of the chain that comes. The last number of all has none: Got could not be behind it.
func (w *work) come(n uint64) string {
	refuseIf(w.Recv == "" || n < w.Got, api.ErrOld)
	refuseIf(n >= noMore-1, api.ErrGap)
	w.leaveOut(n)
	w.Got = n + 1
	return step(&w.Recv)
}

// leaveOut keeps the keys that the chain which comes has ahead of a number.
func (w *work) leaveOut(to uint64) {
	w.Kept, w.Recv = surePair(skipped.Fill(w.Kept, w.Peer, w.Recv, w.Got, to))
}

// use has the key that tags wait to be told.
func (w *work) use(key string) {
	_, tag, _, why := lock.Keys(key)
	refuseIf(why != api.OK, why)
	w.Used = append(w.Used, tag)
	w.Used = w.Used[max(len(w.Used)-api.MaxUsed, 0):]
}

// step is a chain's message's key; the chain is the next one then.
func step(at *string) string {
	next, key := surePair(chain.Step(*at))
	*at = next
	return key
}

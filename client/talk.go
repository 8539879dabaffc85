package client

import (
	"cmp"
	"slices"

	"demurral/api"
	"demurral/frame"
	"demurral/hello"
	"demurral/ladder"
	"demurral/prekeys"
	"demurral/session"
)

func isKey(s string) bool { return len(s) == api.Size }

func hasNoKey(p api.Point) bool { return !isKey(p.Point) }

func numbered(id uint64) func(api.Point) bool {
	return func(p api.Point) bool { return p.Id == id }
}

// mayBe tells whether a shelf may be.
func mayBe(s api.Shelf) bool { return prekeys.Right([]api.Shelf{s}) }

// place is where a link with someone is, or would be, and whether it is there.
func place(links []api.Link, peer uint64) (int, bool) {
	return slices.BinarySearchFunc(links, peer, func(l api.Link, peer uint64) int { return cmp.Compare(l.Peer, peer) })
}

// talksWith are the talks with someone, in a list of their own: none, if there is no link.
func talksWith(c api.Client, peer uint64) []api.Talk {
	at, is := place(c.Links, peer)
	if !is {
		return nil
	}
	return slices.Clone(c.Links[at].Talks)
}

// linked is the client with these talks with someone, in place of those that were.
func linked(c api.Client, peer uint64, talks []api.Talk) api.Client {
	at, is := place(c.Links, peer)
	behind := at
	if is {
		behind++
	}
	c.Links = slices.Concat(c.Links[:at], []api.Link{{Peer: peer, Talks: talks}}, c.Links[behind:])
	return copied(c)
}

// copied is a client whose lists are all its own.
func copied(c api.Client) api.Client {
	c.Once, c.Seen, c.Links = slices.Clone(c.Once), slices.Clone(c.Seen), slices.Clone(c.Links)
	for i, l := range c.Links {
		c.Links[i].Talks = slices.Clone(l.Talks)
		for j, t := range l.Talks {
			c.Links[i].Talks[j] = copiedTalk(t)
		}
	}
	return c
}

func copiedTalk(t api.Talk) api.Talk {
	t.Session.Kept, t.Session.Used = slices.Clone(t.Session.Kept), slices.Clone(t.Session.Used)
	t.Hello.Keys = slices.Clone(t.Hello.Keys)
	return t
}

// begun is a talk with someone whose shelf is known. All keys and points have 32 bytes by then: the layers below tell no errors.
func begun(c api.Client, peer uint64, shelf api.Shelf, base, fresh string) (api.Talk, api.Errno) {
	switch {
	case shelf.User != peer || !mayBe(shelf):
		return api.Talk{}, api.ErrNone
	case !isKey(base) || !isKey(fresh):
		return api.Talk{}, api.ErrSize
	}
	var once api.Point
	if len(shelf.Once) > 0 {
		once = shelf.Once[0]
	}
	secret, _ := hello.Initiate(c.Identity, base, shelf.Identity, shelf.Signed.Point, once.Point)
	s, _ := session.Start(secret, shelf.Signed.Point, fresh)
	f := api.Frame{Kind: api.FHello, Signed: shelf.Signed.Id, Once: once.Id}
	f.Identity, _ = ladder.Base(c.Identity)
	f.Base, _ = ladder.Base(base)
	return api.Talk{Session: s, Hello: f}, api.OK
}

// asked is the talk that a frame of someone else begins. Here, too, all has 32 bytes.
func asked(c api.Client, f api.Frame) (api.Talk, api.Errno) {
	once, is := onceKey(c, f.Once)
	switch {
	case !is || f.Signed != c.Signed.Id:
		return api.Talk{}, api.ErrNone
	case slices.Contains(c.Seen, f.Base):
		return api.Talk{}, api.ErrOld
	}
	secret, _ := hello.Respond(c.Identity, c.Signed.Point, once, f.Identity, f.Base)
	s, _ := session.Accept(secret, c.Signed.Point)
	return api.Talk{Session: s}, api.OK
}

// onceKey is the one-time key of a number, and whether there is one. None was asked for by the number 0: it is empty then.
func onceKey(c api.Client, id uint64) (string, bool) {
	if id == 0 {
		return "", true
	}
	at := slices.IndexFunc(c.Once, numbered(id))
	if at < 0 {
		return "", false
	}
	return c.Once[at].Point, true
}

// addressed is the frame, still without a text, of the next text of a talk. The talk's first frame goes with each till the other one has answered: any of them may be the first that comes.
func addressed(c api.Client, to uint64, t api.Talk) api.Frame {
	f := t.Hello
	if f.Base == "" {
		f.Kind = api.FText
	}
	f.From, f.To, f.Id = c.User, to, c.Next
	return f
}

// sent is the client behind a frame that it made, with the talks of that link then, and the frame's bytes.
func sent(c api.Client, to uint64, talks []api.Talk, f api.Frame) (api.Client, string, api.Errno) {
	bytes, why := frame.Put(f)
	if why != api.OK {
		return api.Client{}, "", why
	}
	c.Next++
	return linked(c, to, talks), bytes, api.OK
}

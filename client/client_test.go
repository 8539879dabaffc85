package client_test

import (
	"cmp"
	"crypto/ecdh"
	"crypto/sha256"
	"encoding/hex"
	"fmt"
	"maps"
	"math"
	"math/rand"
	"slices"
	"strings"
	"sync"
	"testing"

	"demurral/api"
	"demurral/client"
	"demurral/frame"
	"demurral/hello"
	"demurral/lock"
	"demurral/reveal"
	"demurral/session"
)

const (
	mostText = 992
	mostOnce = 20
	mostSeen = 64
	mostUsed = 40
	mostKeys = 32
	mostGap  = 10
	top      = math.MaxUint64
)

// key is one without a rule, the same at every run; what it is made of tells it.
func key(what ...any) string {
	sum := sha256.Sum256([]byte(fmt.Sprint(what...)))
	return string(sum[:])
}

// keyring tells keys that no other one of a test has.
type keyring string

func (k *keyring) next() string {
	*k = keyring(key("next", string(*k)))
	return string(*k)
}

// rising are 32 bytes, each one more than that ahead.
func rising(first byte) string {
	var b []byte
	for i := range byte(32) {
		b = append(b, first+i)
	}
	return string(b)
}

func long(many int) string { return strings.Repeat("l", many) }

// turned is the text with one bit of it turned.
func turned(s string, bit int) string {
	b := []byte(s)
	b[bit/8] ^= 1 << (bit % 8)
	return string(b)
}

func raw(t *testing.T, s string) string {
	t.Helper()
	b, err := hex.DecodeString(s)
	if err != nil {
		t.Fatal(err)
	}
	return string(b)
}

// wrongKeys are of the sizes that the document does not allow: those next to 32 among them, and one that has 32 in its lowest bits.
func wrongKeys() []string {
	var out []string
	for _, many := range []int{0, 1, 16, 31, 33, 64, 256 + 32} {
		out = append(out, strings.Repeat("\x00", many), strings.Repeat(key("wrong"), 9)[:many])
	}
	return out
}

// onceId are numbers that neither rise nor fall, with both ends among them.
func onceId(i int) uint64 {
	switch i {
	case 2:
		return 1
	case 5:
		return top
	}
	return uint64(i*100%307) + 2
}

func onceKeys(user uint64, many int) []api.Point {
	var out []api.Point
	for i := range many {
		out = append(out, api.Point{Id: onceId(i), Point: key("once", user, i)})
	}
	return out
}

func signedKey(user uint64) api.Point { return api.Point{Id: 40 + user, Point: key("signed", user)} }

// made is a user's client, with so many one-time keys.
func made(t testing.TB, user uint64, once int) api.Client {
	t.Helper()
	c, why := client.Make(user, key("identity", user), signedKey(user), onceKeys(user, once))
	if why != api.OK {
		t.Fatalf("Make of %d: error %d", user, why)
	}
	return c
}

// What follows, up to revealByTheWords, is the chapter's words, with the library's X25519 for points; the layers below are asked where the chapter names them.
func pointOf(k string) string {
	p, err := ecdh.X25519().NewPrivateKey([]byte(k))
	if err != nil {
		panic(err)
	}
	return string(p.PublicKey().Bytes())
}

func makeByTheWords(user uint64, identity string, signed api.Point, once []api.Point) (api.Client, api.Errno) {
	many := map[uint64]int{}
	sizes := []int{len(identity), len(signed.Point)}
	for _, p := range once {
		many[p.Id]++
		sizes = append(sizes, len(p.Point))
	}
	if slices.Min(sizes) != 32 || slices.Max(sizes) != 32 {
		return api.Client{}, 2
	}
	if many[0] > 0 || len(many) < len(once) || len(once) > 20 {
		return api.Client{}, 1
	}
	return api.Client{User: user, Identity: identity, Signed: signed, Once: once}, 0
}

func shelfByTheWords(c api.Client) api.Shelf {
	s := api.Shelf{User: c.User, Identity: pointOf(c.Identity), Signed: api.Point{Id: c.Signed.Id, Point: pointOf(c.Signed.Point)}}
	for _, p := range c.Once {
		s.Once = append(s.Once, api.Point{Id: p.Id, Point: pointOf(p.Point)})
	}
	return s
}

func shelfMayBe(s api.Shelf) bool {
	_, why := makeByTheWords(s.User, s.Identity, s.Signed, s.Once)
	return why == 0
}

// linkOf is the place of the link with someone, or -1.
func linkOf(c api.Client, peer uint64) int {
	for i, l := range c.Links {
		if l.Peer == peer {
			return i
		}
	}
	return -1
}

// linkedTo is the client with a link more, without talks, and its place.
func linkedTo(c api.Client, peer uint64) (api.Client, int) {
	c = copied(c)
	c.Links = append(c.Links, api.Link{Peer: peer})
	for i := len(c.Links) - 1; i > 0 && c.Links[i-1].Peer > c.Links[i].Peer; i-- {
		c.Links[i], c.Links[i-1] = c.Links[i-1], c.Links[i]
	}
	return c, linkOf(c, peer)
}

func begunByTheWords(c api.Client, shelf api.Shelf, base, fresh string) (api.Talk, api.Errno) {
	f := api.Frame{Kind: 0, Identity: pointOf(c.Identity), Base: pointOf(base), Signed: shelf.Signed.Id}
	once := ""
	if len(shelf.Once) > 0 {
		f.Once, once = shelf.Once[0].Id, shelf.Once[0].Point
	}
	secret, why := hello.Initiate(c.Identity, base, shelf.Identity, shelf.Signed.Point, once)
	if why != 0 {
		return api.Talk{}, why
	}
	s, why := session.Start(secret, shelf.Signed.Point, fresh)
	return api.Talk{Session: s, Hello: f}, why
}

func sendByTheWords(c api.Client, to uint64, shelf api.Shelf, base, fresh, text string) (api.Client, string, api.Errno) {
	if to == c.User {
		return api.Client{}, "", 1
	}
	out, at := copied(c), linkOf(c, to)
	if at < 0 {
		if shelf.User != to || !shelfMayBe(shelf) {
			return api.Client{}, "", 5
		}
		if len(base) != 32 || len(fresh) != 32 {
			return api.Client{}, "", 2
		}
		talk, why := begunByTheWords(c, shelf, base, fresh)
		if why != 0 {
			return api.Client{}, "", why
		}
		out, at = linkedTo(c, to)
		out.Links[at].Talks = []api.Talk{talk}
	}
	talk := &out.Links[at].Talks[0]
	f := api.Frame{Kind: 1}
	if len(talk.Hello.Base) > 0 {
		f = talk.Hello
	}
	f.From, f.To, f.Id = c.User, to, c.Next
	s, f, why := session.Seal(talk.Session, f, text)
	if why != 0 {
		return api.Client{}, "", why
	}
	bytes, why := frame.Put(f)
	talk.Session, out.Next = s, c.Next+1
	return out, bytes, why
}

// openedByTheWords are talks of which one opened a frame, and its text; else the error of the first one.
func openedByTheWords(talks []api.Talk, f api.Frame, fresh string) ([]api.Talk, string, api.Errno) {
	var errors []api.Errno
	for i, talk := range talks {
		s, text, why := session.Open(talk.Session, f, fresh)
		if why == 0 {
			out := []api.Talk{{Session: s}}
			for j, other := range talks {
				if j != i {
					out = append(out, other)
				}
			}
			return out, text, 0
		}
		errors = append(errors, why)
	}
	return nil, "", errors[0]
}

func askedByTheWords(c api.Client, f api.Frame, fresh string) (api.Client, string, api.Errno) {
	own := slices.IndexFunc(c.Once, func(p api.Point) bool { return p.Id == f.Once })
	if f.Signed != c.Signed.Id || f.Once != 0 && own < 0 {
		return c, "", 5
	}
	if slices.Contains(c.Seen, f.Base) {
		return c, "", 7
	}
	once := ""
	if f.Once != 0 {
		once = c.Once[own].Point
		c.Once = slices.Delete(c.Once, own, own+1)
	}
	secret, why := hello.Respond(c.Identity, c.Signed.Point, once, f.Identity, f.Base)
	if why != 0 {
		return c, "", why
	}
	s, why := session.Accept(secret, c.Signed.Point)
	if why != 0 {
		return c, "", why
	}
	talks, text, why := openedByTheWords([]api.Talk{{Session: s}}, f, fresh)
	if why != 0 {
		return c, "", why
	}
	at := linkOf(c, f.From)
	if at < 0 {
		c, at = linkedTo(c, f.From)
	}
	c.Links[at].Talks = append(talks, c.Links[at].Talks...)
	if len(c.Links[at].Talks) == 3 {
		c.Links[at].Talks = c.Links[at].Talks[:2]
	}
	c.Seen = append(c.Seen, f.Base)
	if len(c.Seen) == 65 {
		c.Seen = c.Seen[1:]
	}
	return c, text, 0
}

func receiveByTheWords(c api.Client, bytes, fresh string) (api.Client, api.Event, api.Errno) {
	f, why := frame.Get(bytes)
	if why != 0 {
		return api.Client{}, api.Event{}, 4
	}
	if f.To != c.User || f.From == c.User {
		return api.Client{}, api.Event{}, 1
	}
	out, at := copied(c), linkOf(c, f.From)
	if f.Kind == 2 {
		return out, api.Event{From: f.From, Keys: f.Keys}, 0
	}
	if f.Kind == 1 && at < 0 {
		return api.Client{}, api.Event{}, 5
	}
	text, why := "", api.Errno(1)
	if at >= 0 {
		var talks []api.Talk
		talks, text, why = openedByTheWords(c.Links[at].Talks, f, fresh)
		out.Links[at].Talks = talks
	}
	if f.Kind == 0 && why != 0 {
		out, text, why = askedByTheWords(copied(c), f, fresh)
	}
	if why != 0 {
		return api.Client{}, api.Event{}, why
	}
	return out, api.Event{From: f.From, Text: text}, 0
}

func revealByTheWords(c api.Client, to uint64, most int) (api.Client, string, api.Errno) {
	at := linkOf(c, to)
	if at < 0 {
		return api.Client{}, "", 5
	}
	s, keys, why := reveal.Take(c.Links[at].Talks[0].Session, most)
	if why != 0 {
		return api.Client{}, "", why
	}
	out := copied(c)
	out.Links[at].Talks[0].Session, out.Next = s, c.Next+1
	f, why := reveal.Frame(c.User, to, c.Next, keys)
	if why != 0 {
		return api.Client{}, "", why
	}
	bytes, why := frame.Put(f)
	return out, bytes, why
}

// copied is the client as new memory.
func copied(c api.Client) api.Client {
	c.Once, c.Seen, c.Links = slices.Clone(c.Once), slices.Clone(c.Seen), slices.Clone(c.Links)
	for i := range c.Links {
		talks := slices.Clone(c.Links[i].Talks)
		for j := range talks {
			s := &talks[j].Session
			s.Kept, s.Used = slices.Clone(s.Kept), slices.Clone(s.Used)
			talks[j].Hello.Keys = slices.Clone(talks[j].Hello.Keys)
		}
		c.Links[i].Talks = talks
	}
	return c
}

func changed(c api.Client, change func(*api.Client)) api.Client {
	c = copied(c)
	change(&c)
	return c
}

// What follows tells things as they are; a list of none is told as no list.
func toldSession(s api.Session) string {
	out := fmt.Sprintf("own %x peer %x root %x send %x recv %x sent %d got %d prev %d, %d kept:", s.Own, s.Peer, s.Root, s.Send, s.Recv, s.Sent, s.Got, s.Prev, len(s.Kept))
	for _, k := range s.Kept {
		out += fmt.Sprintf(" (%x %d %x)", k.Ratchet, k.N, k.Key)
	}
	return out + fmt.Sprintf(", %d used: %x", len(s.Used), s.Used)
}

func toldFrame(f api.Frame) string {
	keys := fmt.Sprintf("%d keys: %x", len(f.Keys), f.Keys)
	f.Keys = nil
	return fmt.Sprintf("%#v, ", f) + keys
}

func toldPoints(l []api.Point) string {
	out := fmt.Sprintf("%d points:", len(l))
	for _, p := range l {
		out += fmt.Sprintf(" (%d %x)", p.Id, p.Point)
	}
	return out
}

func toldLinks(l []api.Link) string {
	out := fmt.Sprintf("%d links:", len(l))
	for _, link := range l {
		out += fmt.Sprintf("\nwith %d %d talks:", link.Peer, len(link.Talks))
		for _, talk := range link.Talks {
			out += "\n  session " + toldSession(talk.Session) + "\n  hello " + toldFrame(talk.Hello)
		}
	}
	return out
}

func told(c api.Client) string {
	return fmt.Sprintf("user %d next %d identity %x signed %s\nonce %s\n%d seen: %x\n%s",
		c.User, c.Next, c.Identity, toldPoints([]api.Point{c.Signed}), toldPoints(c.Once), len(c.Seen), c.Seen, toldLinks(c.Links))
}

func toldShelf(s api.Shelf) string {
	return fmt.Sprintf("user %d identity %x signed %s\nonce %s", s.User, s.Identity, toldPoints([]api.Point{s.Signed}), toldPoints(s.Once))
}

func toldEvent(v api.Event) string {
	return fmt.Sprintf("from %d, %q, %d keys: %x", v.From, v.Text, len(v.Keys), v.Keys)
}

// whole is a list with what stands in the room behind its end; of a great many, it is the first ones.
func whole[T any](l []T) []T { return l[:min(cap(l), 200)] }

// toldWhole is all of the client, and what stands in the room behind the ends of all its lists.
func toldWhole(c api.Client) string {
	ends := told(c)
	c.Once, c.Seen, c.Links = whole(c.Once), whole(c.Seen), slices.Clone(whole(c.Links))
	for i := range c.Links {
		talks := slices.Clone(whole(c.Links[i].Talks))
		for j := range talks {
			s := &talks[j].Session
			s.Kept, s.Used = whole(s.Kept), whole(s.Used)
			talks[j].Hello.Keys = whole(talks[j].Hello.Keys)
		}
		c.Links[i].Talks = talks
	}
	return ends + "\nwhole: " + told(c)
}

func want(t *testing.T, what, got, wanted string) {
	t.Helper()
	if got != wanted {
		t.Errorf("%s: %.3000s\nwanted %.3000s", what, got, wanted)
	}
}

func wantErr(t *testing.T, what string, got, wanted api.Errno) {
	t.Helper()
	if got != wanted {
		t.Errorf("%s: error %d; wanted error %d", what, got, wanted)
	}
}

// What follows, up to tell, asks what the words say of a call, and that what was handed in stays, with the room behind the ends of all lists.
func build(t *testing.T, user uint64, identity string, signed api.Point, once []api.Point) (api.Client, api.Errno) {
	t.Helper()
	before := toldPoints(whole(once))
	wanted, wantedWhy := makeByTheWords(user, identity, signed, once)
	c, why := client.Make(user, identity, signed, once)
	wantErr(t, "Make", why, wantedWhy)
	want(t, "Make", told(c), told(wanted))
	want(t, "Make: the keys that were handed in", toldPoints(whole(once)), before)
	return c, why
}

func shelfOf(t *testing.T, c api.Client) api.Shelf {
	t.Helper()
	before := toldWhole(c)
	s, why := client.Shelf(c)
	wantErr(t, "Shelf", why, api.OK)
	want(t, "Shelf", toldShelf(s), toldShelf(shelfByTheWords(c)))
	want(t, "Shelf: the client that was handed in", toldWhole(c), before)
	return s
}

func send(t *testing.T, c api.Client, to uint64, shelf api.Shelf, base, fresh, text string) (api.Client, string, api.Errno) {
	t.Helper()
	before, beforeOnce := toldWhole(c), toldPoints(whole(shelf.Once))
	wanted, wantedBytes, wantedWhy := sendByTheWords(c, to, shelf, base, fresh, text)
	out, bytes, why := client.Send(c, to, shelf, base, fresh, text)
	wantErr(t, "Send", why, wantedWhy)
	want(t, "Send", told(out), told(wanted))
	want(t, "Send: the bytes", fmt.Sprintf("%x", bytes), fmt.Sprintf("%x", wantedBytes))
	want(t, "Send: the client that was handed in", toldWhole(c), before)
	want(t, "Send: the shelf that was handed in", toldPoints(whole(shelf.Once)), beforeOnce)
	return out, bytes, why
}

func receive(t *testing.T, c api.Client, bytes, fresh string) (api.Client, api.Event, api.Errno) {
	t.Helper()
	before := toldWhole(c)
	wanted, wantedEvent, wantedWhy := receiveByTheWords(c, bytes, fresh)
	out, event, why := client.Receive(c, bytes, fresh)
	wantErr(t, "Receive", why, wantedWhy)
	want(t, "Receive", told(out), told(wanted))
	want(t, "Receive: the event", toldEvent(event), toldEvent(wantedEvent))
	want(t, "Receive: the client that was handed in", toldWhole(c), before)
	return out, event, why
}

func tell(t *testing.T, c api.Client, to uint64, most int) (api.Client, string, api.Errno) {
	t.Helper()
	before := toldWhole(c)
	wanted, wantedBytes, wantedWhy := revealByTheWords(c, to, most)
	out, bytes, why := client.Reveal(c, to, most)
	wantErr(t, "Reveal", why, wantedWhy)
	want(t, "Reveal", told(out), told(wanted))
	want(t, "Reveal: the bytes", fmt.Sprintf("%x", bytes), fmt.Sprintf("%x", wantedBytes))
	want(t, "Reveal: the client that was handed in", toldWhole(c), before)
	return out, bytes, why
}

// What follows, up to wantNoTell, asks for an error, too (or OK, and what is told then), beside what the words say.
func wantBuild(t *testing.T, what string, user uint64, identity string, signed api.Point, once []api.Point, wanted api.Errno) api.Client {
	t.Helper()
	c, why := build(t, user, identity, signed, once)
	wantErr(t, "Make, "+what, why, wanted)
	return c
}

func sent(t *testing.T, c api.Client, to uint64, shelf api.Shelf, base, fresh, text string) (api.Client, string) {
	t.Helper()
	out, bytes, why := send(t, c, to, shelf, base, fresh, text)
	if why != api.OK {
		t.Fatalf("Send %.20q to %d: error %d", text, to, why)
	}
	return out, bytes
}

func wantNoSend(t *testing.T, what string, c api.Client, to uint64, shelf api.Shelf, base, fresh, text string, wanted api.Errno) {
	t.Helper()
	_, _, why := send(t, c, to, shelf, base, fresh, text)
	wantErr(t, "Send, "+what, why, wanted)
}

func received(t *testing.T, c api.Client, bytes, fresh string, from uint64, text string) api.Client {
	t.Helper()
	out, event, why := receive(t, c, bytes, fresh)
	if why != api.OK {
		t.Fatalf("Receive %.20q: error %d", text, why)
	}
	want(t, "the event", toldEvent(event), toldEvent(api.Event{From: from, Text: text}))
	return out
}

func wantNoReceive(t *testing.T, what string, c api.Client, bytes, fresh string, wanted api.Errno) {
	t.Helper()
	_, _, why := receive(t, c, bytes, fresh)
	wantErr(t, "Receive, "+what, why, wanted)
}

// revealed is the client behind a Reveal, its bytes, and the keys in them.
func revealed(t *testing.T, c api.Client, to uint64, most int) (api.Client, string, []string) {
	t.Helper()
	out, bytes, why := tell(t, c, to, most)
	if why != api.OK {
		t.Fatalf("Reveal %d to %d: error %d", most, to, why)
	}
	return out, bytes, got(t, bytes).Keys
}

func wantNoTell(t *testing.T, what string, c api.Client, to uint64, most int, wanted api.Errno) {
	t.Helper()
	_, _, why := tell(t, c, to, most)
	wantErr(t, "Reveal, "+what, why, wanted)
}

func got(t testing.TB, bytes string) api.Frame {
	t.Helper()
	f, why := frame.Get(bytes)
	if why != api.OK {
		t.Fatalf("no frame's bytes: %x", bytes)
	}
	return f
}

func put(t testing.TB, f api.Frame) string {
	t.Helper()
	s, why := frame.Put(f)
	if why != api.OK {
		t.Fatalf("a frame that may not be: %s", toldFrame(f))
	}
	return s
}

// reframed are the bytes of a frame with something of it changed.
func reframed(t testing.TB, bytes string, change func(*api.Frame)) string {
	t.Helper()
	f := got(t, bytes)
	change(&f)
	return put(t, f)
}

// talks are those of a link, which must be there.
func talks(t testing.TB, c api.Client, peer uint64) []api.Talk {
	t.Helper()
	at := linkOf(c, peer)
	if at < 0 {
		t.Fatalf("no link with %d", peer)
	}
	return c.Links[at].Talks
}

// firstText is a first text of one client to another one, of the shelf that it tells by now, with so many one-time points.
func firstText(t *testing.T, from, to api.Client, once int, name, text string) (api.Client, string) {
	t.Helper()
	s := shelfOf(t, to)
	s.Once = s.Once[:once]
	return sent(t, from, to.User, s, key("base", name), key("fresh", name), text)
}

// The chapter's example: behind a first text, there is 1 talk, with its Hello.
func TestTheChaptersExample(t *testing.T) {
	a, _ := firstText(t, made(t, 1, 0), made(t, 2, 1), 1, "first", "one")
	l := talks(t, a, 2)
	wanted := api.Frame{
		Kind: api.FHello, Identity: pointOf(key("identity", 1)), Base: pointOf(key("base", "first")), Signed: 42, Once: onceId(0),
	}
	if len(a.Links) != 1 || len(l) != 1 || a.Next != 1 || len(a.Seen) != 0 {
		t.Errorf("behind a first text: %s", told(a))
	}
	want(t, "Hello", toldFrame(l[0].Hello), toldFrame(wanted))
}

// P17.2 to P17.4: bytes that Python told, by its own X25519, ChaCha20, HMAC and HKDF: two first texts, which overtake each other, an answer, a text, and keys.
func TestBytes(t *testing.T) {
	a := wantBuild(t, "a", 1, rising(0x00), api.Point{Id: 3, Point: rising(0x20)}, nil, api.OK)
	b := wantBuild(t, "b", 2, rising(0x40), api.Point{Id: 4, Point: rising(0x60)}, []api.Point{{Id: 7, Point: rising(0x80)}, {Id: 9, Point: rising(0xa0)}}, api.OK)
	s := shelfOf(t, b)
	want(t, "b's shelf", toldShelf(s), toldShelf(api.Shelf{
		User: 2, Identity: raw(t, "79a631eede1bf9c98f12032cdeadd0e7a079398fc786b88cc846ec89af85a51a"),
		Signed: api.Point{Id: 4, Point: raw(t, "675dd574ed7789310b3d2e7681f3790b466c773b1521fecf36577958371ea52f")},
		Once: []api.Point{
			{Id: 7, Point: raw(t, "493e82fc74464a59268817623d2053c5eb8e2cc4a988b4fee179ec6b010d531d")},
			{Id: 9, Point: raw(t, "605a725d2a4adfeeb1a29e17edd621c1b7593ee8cdbc44ac6c4ab6e2f805d23c")},
		}}))
	a, one := sent(t, a, 2, s, rising(0xc0), rising(0xe0), "one")
	a, two := sent(t, a, 2, api.Shelf{}, "", "", "two")
	b = received(t, b, two, rising(0x10), 1, "two")
	b = received(t, b, one, rising(0x11), 1, "one")
	b, three := sent(t, b, 1, api.Shelf{}, "", "", "three")
	a = received(t, a, three, rising(0x30), 2, "three")
	a, four := sent(t, a, 2, api.Shelf{}, "", "", "four")
	b, keys, _ := revealed(t, b, 1, 2)
	received(t, b, four, rising(0x50), 1, "four")
	_, event, _ := receive(t, a, keys, "")
	want(t, "keys", fmt.Sprintf("%x", event.Keys), "[74ab429c31dce9ec34cc918669f4da2c94baef6b5c39df680c2f57fc23b251ff de96e9454c3ea61bdb328147d0473fbef034af91fd40fd450cdd49f3494a896d]")
	first := "01208f40c5adb68f25624ae5b214ea767a6ec94d829d3d7b5e1ad1ba6f3e2138285f0120dc2cca31e8e43bbd91dff7e475cca3347eb478107d5bd765aba4ae4a30c35d44010401070120736845d54e87de09d6bb114aa7042c50a4a015bd9901d1a0026f5956533a1519"
	for i, wanted := range []string{
		"000101010200" + first + "00000123868f753b3a030209bffc6508dabeb011ddb5c9112951f16a31a239e06054bce0c63802",
		"00010101020101" + first + "0001010123fcb1373b4150af0c7c1eb6480a8a69cca9e409fedbc2a64a950670cd52ca609e51c8c0",
		"010101020101000120d89e3bad79437dbed9f843418304f460ff05c7fe81fe4a9577a804cb9367ff660000012520dd7ba691044971c348c1e42f85f2a1edc6bb251c9e77729f256f65ddc2c7b884aa4e9348",
		"0101010101020102012034e42d4af5ef94a07a3a84201b889d4cd1a743cb27b11b6a10438a8feb8e5847010200012481744b73ee097f37ade1cfb9cb95bfb53da6aa74bacd12ac36f7781bd177be20cc96fdcd",
		"01020102010101010102012074ab429c31dce9ec34cc918669f4da2c94baef6b5c39df680c2f57fc23b251ff0120de96e9454c3ea61bdb328147d0473fbef034af91fd40fd450cdd49f3494a896d",
	} {
		want(t, fmt.Sprint("bytes ", i), hex.EncodeToString([]byte([]string{one, two, three, four, keys}[i])), wanted)
	}
}

// P17.1: of any user, with 0 to 20 one-time keys, whose numbers are in any order, and keys that are the same.
func TestMake(t *testing.T) {
	for many := range mostOnce + 1 {
		c := wantBuild(t, "right", 5, key("i"), signedKey(5), onceKeys(5, many), api.OK)
		if !slices.Equal(c.Once, onceKeys(5, many)) || len(c.Links)+len(c.Seen) != 0 || c.Next != 0 {
			t.Errorf("%d one-time keys: %s", many, told(c))
		}
	}
	for _, n := range []uint64{0, 1, 1 << 32, 1 << 63, top} {
		wantBuild(t, "any user", n, key("i"), signedKey(5), onceKeys(5, 3), api.OK)
		wantBuild(t, "any signed number", 1, key("i"), api.Point{Id: n, Point: key("s")}, onceKeys(5, 3), api.OK)
		if n > 0 {
			wantBuild(t, "any one-time number", 1, key("i"), api.Point{Id: n, Point: key("s")}, []api.Point{{Id: n, Point: key("o")}}, api.OK)
		}
	}
	wantBuild(t, "one key for all", 1, key("i"), api.Point{Id: 1, Point: key("i")}, []api.Point{{Id: 1, Point: key("i")}, {Id: 2, Point: key("i")}}, api.OK)
	wantBuild(t, "keys of one byte", 1, strings.Repeat("\x00", 32), api.Point{Point: strings.Repeat("\xff", 32)}, []api.Point{{Id: top, Point: strings.Repeat("\x00", 32)}}, api.OK)
	wantBuild(t, "a list of none", 1, key("i"), signedKey(1), []api.Point{}, api.OK)
	wantBuild(t, "others behind the end", 1, key("i"), signedKey(1), append(onceKeys(1, 20), api.Point{}, api.Point{Id: 1})[:20], api.OK)
}

// P17.1: each wrong size alone.
func TestMakeSizes(t *testing.T) {
	for _, wrong := range wrongKeys() {
		wantBuild(t, "identity", 1, wrong, signedKey(1), onceKeys(1, 3), api.ErrSize)
		wantBuild(t, "signed", 1, key("i"), api.Point{Id: 1, Point: wrong}, onceKeys(1, 3), api.ErrSize)
		for _, many := range []int{1, 2, 5, 20} {
			for place := range many {
				l := onceKeys(1, many)
				l[place].Point = wrong
				wantBuild(t, fmt.Sprintf("one-time %d of %d", place, many), 1, key("i"), signedKey(1), l, api.ErrSize)
			}
		}
	}
	wantBuild(t, "nothing", 0, "", api.Point{}, nil, api.ErrSize)
}

// P17.1: each wrong number alone, and too many keys.
func TestMakeNumbers(t *testing.T) {
	for _, many := range []int{1, 2, 7, 20} {
		for i := range many {
			l := onceKeys(1, many)
			l[i].Id = 0
			wantBuild(t, fmt.Sprintf("number 0 at %d of %d", i, many), 1, key("i"), signedKey(1), l, api.ErrArg)
			for j := range i {
				l := onceKeys(1, many)
				l[i].Id = l[j].Id
				wantBuild(t, fmt.Sprintf("one number at %d and %d of %d", j, i, many), 1, key("i"), signedKey(1), l, api.ErrArg)
			}
		}
	}
	for _, many := range []int{21, 22, 40, 256, 276} {
		wantBuild(t, fmt.Sprint(many, " keys"), 1, key("i"), signedKey(1), onceKeys(1, many), api.ErrArg)
	}
	great := make([]api.Point, 1<<20+5)
	for i := range great {
		great[i] = api.Point{Id: uint64(i + 1), Point: key("great")}
	}
	_, why := client.Make(1, key("i"), signedKey(1), great)
	wantErr(t, "a great many", why, api.ErrArg)
	great[1<<20].Point = ""
	_, why = client.Make(1, key("i"), signedKey(1), great)
	wantErr(t, "a great many, the last but some of no size", why, api.ErrSize)
}

// P17.1: in every set of several faults, a size is the first.
func TestMakeErrorsInOrder(t *testing.T) {
	for set := range 1 << 6 {
		has := func(i int) bool { return set>>i&1 == 1 }
		identity, signed, once, wanted := key("i"), signedKey(1), onceKeys(1, 5), api.OK
		if has(0) {
			once[1].Id, wanted = 0, api.ErrArg
		}
		if has(1) {
			once[2].Id, wanted = once[3].Id, api.ErrArg
		}
		if has(2) {
			once, wanted = append(once, onceKeys(1, 30)[5:]...), api.ErrArg
		}
		if has(3) {
			identity, wanted = identity[1:], api.ErrSize
		}
		if has(4) {
			signed.Point, wanted = signed.Point+"x", api.ErrSize
		}
		if has(5) {
			once[len(once)-1].Point, wanted = "", api.ErrSize
		}
		wantBuild(t, fmt.Sprint("set ", set), 1, identity, signed, once, wanted)
	}
}

// P17.1: the points of all keys, by the same numbers, in the same order; as long as they are there.
func TestShelf(t *testing.T) {
	for many := range mostOnce + 1 {
		c := made(t, uint64(many), many)
		s := shelfOf(t, c)
		if s.User != uint64(many) || s.Signed.Id != 40+uint64(many) || len(s.Once) != many || !shelfMayBe(s) {
			t.Errorf("%d one-time keys: %s", many, toldShelf(s))
		}
		for i, p := range s.Once {
			if p.Id != onceId(i) || p.Point != pointOf(key("once", many, i)) {
				t.Errorf("one-time point %d of %d: %d %x", i, many, p.Id, p.Point)
			}
		}
	}
	b := made(t, 2, 3)
	s := shelfOf(t, b)
	s.Once = s.Once[1:]
	_, bytes := sent(t, made(t, 1, 0), 2, s, key("base"), key("fresh"), "one")
	b = received(t, b, bytes, key("g"), 1, "one")
	left := shelfOf(t, b).Once
	if len(left) != 2 || left[0].Id != onceId(0) || left[1].Id != onceId(2) {
		t.Errorf("the second one is used: %s", toldPoints(left))
	}
}

// P17.2: the fields of a first text's frame, with 0 to 3 one-time points on the shelf: the first one counts.
func TestFirstText(t *testing.T) {
	for many := range 4 {
		for _, text := range []string{"one", "", "\x00", long(mostText)} {
			b := made(t, 2, 3)
			a, bytes := firstText(t, made(t, 1, 2), b, many, "f", text)
			f := got(t, bytes)
			wanted := api.Frame{
				Kind: api.FHello, From: 1, To: 2, Identity: pointOf(key("identity", 1)), Base: pointOf(key("base", "f")), Signed: 42,
				Ratchet: pointOf(key("fresh", "f")), Body: f.Body,
			}
			if many > 0 {
				wanted.Once = onceId(0)
			}
			want(t, "a first text's frame", toldFrame(f), toldFrame(wanted))
			if len(f.Body) != len(text)+32 || len(a.Once) != 2 || len(a.Seen) != 0 {
				t.Errorf("%d bytes of a text of %d; %s", len(f.Body), len(text), told(a))
			}
			b = received(t, b, bytes, key("g"), 1, text)
			if len(b.Once) != 3-min(many, 1) || !slices.Equal(b.Seen, []string{f.Base}) || len(talks(t, b, 1)) != 1 || b.Next != 0 {
				t.Errorf("behind a first text: %s", told(b))
			}
			want(t, "who is asked has no Hello", toldFrame(talks(t, b, 1)[0].Hello), toldFrame(api.Frame{}))
		}
	}
}

// P17.2: Hello goes with each text till a frame was opened, and no longer; Id is how many frames were made, N how many in the chain.
func TestHelloGoesWithEachText(t *testing.T) {
	a, b, fresh := made(t, 1, 0), made(t, 2, 1), keyring("h")
	s := shelfOf(t, b)
	var all []string
	for i := range 5 {
		var bytes string
		a, bytes = sent(t, a, 2, s, key("base"), key("fresh"), fmt.Sprint("text ", i))
		all = append(all, bytes)
		f := got(t, bytes)
		if f.Kind != api.FHello || f.Id != uint64(i) || f.N != uint64(i) || f.Base != pointOf(key("base")) || f.Once != onceId(0) || f.From != 1 || f.To != 2 {
			t.Errorf("text %d: %s", i, toldFrame(f))
		}
		b = received(t, b, bytes, fresh.next(), 1, fmt.Sprint("text ", i))
		if a.Next != uint64(i)+1 || len(b.Seen) != 1 || len(talks(t, a, 2)) != 1 || len(talks(t, b, 1)) != 1 {
			t.Errorf("behind text %d: %s\n%s", i, told(a), told(b))
		}
	}
	b, back := sent(t, b, 1, api.Shelf{}, "", "", "back")
	if f := got(t, back); f.Kind != api.FText || f.Id != 0 || f.From != 2 || f.To != 1 || f.Ratchet == "" {
		t.Errorf("an answer: %s", toldFrame(f))
	}
	wantNoReceive(t, "a turned answer", a, reframed(t, back, func(f *api.Frame) { f.Body = turned(f.Body, 3) }), fresh.next(), api.ErrAuth)
	a, still := sent(t, a, 2, s, "", "", "still")
	if got(t, still).Kind != api.FHello {
		t.Error("what is refused took the Hello")
	}
	a = received(t, a, back, fresh.next(), 2, "back")
	want(t, "behind an answer", toldFrame(talks(t, a, 2)[0].Hello), toldFrame(api.Frame{}))
	for i := range 3 {
		var bytes string
		a, bytes = sent(t, a, 2, s, key("base"), key("fresh"), "later")
		f := got(t, bytes)
		if f.Kind != api.FText || f.Id != uint64(6+i) || f.N != uint64(i) || f.Prev != 6 || f.Identity+f.Base != "" || f.Signed+f.Once != 0 {
			t.Errorf("text %d behind an answer: %s", i, toldFrame(f))
		}
		b = received(t, b, bytes, fresh.next(), 1, "later")
	}
	received(t, b, still, fresh.next(), 1, "still")
	for _, bytes := range all {
		wantNoReceive(t, "a first text again", b, bytes, fresh.next(), api.ErrNone)
	}
}

// wrongShelves of user 2 may not be, or are another one's, each for one reason.
func wrongShelves(t *testing.T) map[string]api.Shelf {
	right := shelfByTheWords(made(t, 2, 20))
	out := map[string]api.Shelf{"nothing": {}, "nothing of user 2": {User: 2}}
	add := func(name string, change func(*api.Shelf)) {
		s := right
		s.Once = slices.Clone(s.Once)
		change(&s)
		out[name] = s
	}
	for _, user := range []uint64{0, 1, 3, 1<<32 + 2, 1<<63 + 2, top} {
		add(fmt.Sprint("of user ", user), func(s *api.Shelf) { s.User = user })
	}
	for _, wrong := range wrongKeys() {
		add(fmt.Sprintf("identity of %d, %x", len(wrong), wrong), func(s *api.Shelf) { s.Identity = wrong })
		add(fmt.Sprintf("signed of %d, %x", len(wrong), wrong), func(s *api.Shelf) { s.Signed.Point = wrong })
		for _, place := range []int{0, 7, 19} {
			add(fmt.Sprintf("one-time point %d of %d, %x", place, len(wrong), wrong), func(s *api.Shelf) { s.Once[place].Point = wrong })
		}
	}
	for _, place := range []int{0, 1, 10, 19} {
		add(fmt.Sprint("number 0 at ", place), func(s *api.Shelf) { s.Once[place].Id = 0 })
		add(fmt.Sprint("one number at ", place), func(s *api.Shelf) { s.Once[place].Id = s.Once[(place+3)%20].Id })
	}
	for _, more := range []int{1, 2, 236, 256} {
		add(fmt.Sprint(20+more, " one-time points"), func(s *api.Shelf) {
			for i := range more {
				s.Once = append(s.Once, api.Point{Id: uint64(5000 + i), Point: key(i)})
			}
		})
	}
	return out
}

// P17.2: without a link, a shelf that may not be, or another one's, is none.
func TestWrongShelves(t *testing.T) {
	a := made(t, 1, 2)
	linked, _ := firstText(t, a, made(t, 3, 0), 0, "to another one", "x")
	for name, s := range wrongShelves(t) {
		wantNoSend(t, name, a, 2, s, key("base"), key("fresh"), "text", api.ErrNone)
		wantNoSend(t, name+", with a link with someone else", linked, 2, s, key("base"), key("fresh"), "text", api.ErrNone)
	}
	own := shelfOf(t, a)
	wantNoSend(t, "the own shelf", a, 2, own, key("base"), key("fresh"), "text", api.ErrNone)
	for _, to := range []uint64{0, 2, 3, top} {
		c := made(t, to, 1)
		wantNoSend(t, "to oneself", c, to, shelfOf(t, c), key("base"), key("fresh"), "text", api.ErrArg)
	}
}

// P17.2: without a link, a base key or a fresh one of another size; with one, they and the shelf are not asked.
func TestSendKeys(t *testing.T) {
	a, b := made(t, 1, 2), made(t, 2, 3)
	s := shelfOf(t, b)
	linked, _ := firstText(t, a, b, 1, "f", "one")
	for _, wrong := range wrongKeys() {
		wantNoSend(t, "base", a, 2, s, wrong, key("fresh"), "text", api.ErrSize)
		wantNoSend(t, "fresh", a, 2, s, key("base"), wrong, "text", api.ErrSize)
		wantNoSend(t, "both", a, 2, s, wrong, wrong, "text", api.ErrSize)
		wantNoSend(t, "fresh, to another one", linked, 3, shelfOf(t, made(t, 3, 0)), key("base"), wrong, "text", api.ErrSize)
		c, bytes := sent(t, linked, 2, s, wrong, wrong, "two")
		d, other := sent(t, linked, 2, s, key("base"), key("fresh"), "two")
		want(t, "with a link, keys don't matter", toldFrame(got(t, bytes))+told(c), toldFrame(got(t, other))+told(d))
	}
	c, bytes := sent(t, linked, 2, s, key("other base"), key("other fresh"), "two")
	for name, wrong := range wrongShelves(t) {
		d, other := sent(t, linked, 2, wrong, "", "", "two")
		want(t, "with a link, a shelf doesn't matter: "+name, toldFrame(got(t, other))+told(d), toldFrame(got(t, bytes))+told(c))
	}
	wantNoSend(t, "to oneself", linked, 1, s, key("base"), key("fresh"), "text", api.ErrArg)
}

// P17.2: texts of 0 to 992 bytes, with a link and without one.
func TestTextSizes(t *testing.T) {
	a, b := made(t, 1, 0), made(t, 2, 1)
	s := shelfOf(t, b)
	begun, first := firstText(t, a, b, 1, "f", "one")
	b = received(t, b, first, key("g"), 1, "one")
	b, back := sent(t, b, 1, api.Shelf{}, "", "", "back")
	answered := received(t, begun, back, key("h"), 2, "back")
	for _, many := range []int{0, 1, 255, 256, 991, 992} {
		_, bytes := sent(t, a, 2, s, key("base"), key("fresh"), long(many))
		received(t, made(t, 2, 1), bytes, key("g"), 1, long(many))
		_, bytes = sent(t, begun, 2, s, "", "", long(many))
		received(t, b, bytes, key("g2"), 1, long(many))
		_, bytes = sent(t, answered, 2, s, "", "", long(many))
		received(t, b, bytes, key("g2"), 1, long(many))
	}
	for _, many := range []int{993, 994, 1024, 1025, 1056, 1 << 16, 1<<16 + 5, 1 << 26} {
		wantNoSend(t, "too long", a, 2, s, key("base"), key("fresh"), long(many), api.ErrSize)
		wantNoSend(t, "too long, with a link", begun, 2, s, "", "", long(many), api.ErrSize)
		wantNoSend(t, "too long, behind an answer", answered, 2, s, "", "", long(many), api.ErrSize)
	}
}

// P17.2: in every set of several faults, the one that is named first is told.
func TestSendErrorsInOrder(t *testing.T) {
	a, b := made(t, 1, 0), made(t, 2, 2)
	linked, _ := firstText(t, a, b, 1, "f", "one")
	for set := range 1 << 6 {
		has := func(i int) bool { return set>>i&1 == 1 }
		to, s, base, fresh, text := uint64(2), shelfOf(t, b), key("base"), key("fresh"), "two"
		wanted, wantedLinked := api.OK, api.OK
		if has(0) {
			text, wanted, wantedLinked = long(993), api.ErrSize, api.ErrSize
		}
		if has(1) {
			fresh, wanted = fresh[1:], api.ErrSize
		}
		if has(2) {
			base, wanted = base+"x", api.ErrSize
		}
		if has(3) {
			s.User, wanted = 3, api.ErrNone
		}
		if has(4) {
			s.Once[1].Id, wanted = s.Once[0].Id, api.ErrNone
		}
		if has(5) {
			to, wanted, wantedLinked = 1, api.ErrArg, api.ErrArg
		}
		_, _, why := send(t, a, to, s, base, fresh, text)
		wantErr(t, fmt.Sprint("set ", set), why, wanted)
		_, _, why = send(t, linked, to, s, base, fresh, text)
		wantErr(t, fmt.Sprintf("set %d with a link", set), why, wantedLinked)
	}
}

// peers rise, with both ends among them, and numbers whose lowest bits, or whose order with a sign, say otherwise.
func peers() []uint64 { return []uint64{0, 3, 1<<8 + 1, 1<<31 + 2, 1 << 32, 1<<63 - 1, 1 << 63, top} }

// P17.2, P17.3: links rise by their users, in whatever order they were made, by Send or by Receive; each has its own talks.
func TestLinksRise(t *testing.T) {
	t.Parallel()
	for seed := range int64(6) {
		rnd := rand.New(rand.NewSource(seed))
		c := made(t, 7, 4)
		for i, at := range rnd.Perm(len(peers())) {
			peer, name := made(t, peers()[at], 0), fmt.Sprint(seed, " ", at)
			if rnd.Intn(2) == 0 {
				c, _ = firstText(t, c, peer, 0, name, name)
			} else {
				_, bytes := firstText(t, peer, c, min(1, len(c.Once)), name, name)
				c = received(t, c, bytes, key("fresh", "of", name), peer.User, name)
			}
			if len(c.Links) != i+1 || !slices.IsSortedFunc(c.Links, func(a, b api.Link) int { return cmp.Compare(a.Peer, b.Peer) }) {
				t.Errorf("links don't rise: %s", told(c))
			}
		}
		for _, peer := range peers() {
			var bytes string
			c, bytes = sent(t, c, peer, api.Shelf{}, "", "", "again")
			if f := got(t, bytes); f.To != peer || f.From != 7 {
				t.Errorf("to %d: %s", peer, toldFrame(f))
			}
		}
	}
}

// P17.3: bytes that are no frame's, as they are cut, or have more behind them.
func TestNoFrames(t *testing.T) {
	b := made(t, 2, 1)
	_, hi := firstText(t, made(t, 1, 0), b, 1, "f", "one")
	keys := put(t, api.Frame{Kind: api.FReveal, From: 1, To: 2, Id: 3, Keys: []string{key(1), key(2)}})
	text := put(t, api.Frame{Kind: api.FText, From: 1, To: 2, Id: 3, Ratchet: key(1), Body: long(40)})
	for _, whole := range []string{hi, keys, text} {
		for i := range whole {
			wantNoReceive(t, "cut", b, whole[:i], key("g"), api.ErrSyntax)
		}
		for _, more := range []string{"\x00", "x", whole} {
			wantNoReceive(t, "more", b, whole+more, key("g"), api.ErrSyntax)
		}
		wantNoReceive(t, "another kind", b, "\x01\x03"+whole[2:], key("g"), api.ErrSyntax)
		wantNoReceive(t, "a byte ahead", b, "\x00"+whole, "", api.ErrSyntax)
	}
	for _, s := range []string{"", "x", "\x00", long(10000), strings.Repeat("\x00", 300)} {
		wantNoReceive(t, "others", b, s, key("g"), api.ErrSyntax)
	}
}

// P17.3: frames to others, and from the user itself, of all kinds.
func TestWrongUsers(t *testing.T) {
	a, b := made(t, 1, 0), made(t, 2, 1)
	a, hi := firstText(t, a, b, 1, "f", "one")
	linked := received(t, b, hi, key("g"), 1, "one")
	_, back := sent(t, linked, 1, api.Shelf{}, "", "", "back")
	_, keys, _ := revealed(t, linked, 1, 5)
	for _, bytes := range []string{hi, back, keys} {
		for _, to := range []uint64{0, 1, 3, 1<<32 + 2, 1<<63 + 2, top} {
			wantNoReceive(t, "to another one", made(t, 2, 1), reframed(t, bytes, func(f *api.Frame) { f.From, f.To = 9, to }), key("g"), api.ErrArg)
		}
		wantNoReceive(t, "from oneself", b, reframed(t, bytes, func(f *api.Frame) { f.From, f.To = 2, 2 }), key("g"), api.ErrArg)
		wantNoReceive(t, "from oneself to another one", b, reframed(t, bytes, func(f *api.Frame) { f.From, f.To = 2, 1 }), key("g"), api.ErrArg)
		wantNoReceive(t, "from oneself, with a link", linked, reframed(t, bytes, func(f *api.Frame) { f.From, f.To = 2, 2 }), "", api.ErrArg)
	}
	wantNoReceive(t, "the own text", a, hi, key("g"), api.ErrArg)
	wantNoReceive(t, "the own answer", linked, back, key("g"), api.ErrArg)
	wantNoReceive(t, "the own keys", linked, keys, key("g"), api.ErrArg)
}

// P17.3: a text from someone without a link, also where there are links with others.
func TestTextWithoutLink(t *testing.T) {
	a, b := made(t, 1, 0), made(t, 2, 1)
	_, hi := firstText(t, a, b, 1, "f", "one")
	linked := received(t, b, hi, key("g"), 1, "one")
	text := put(t, api.Frame{Kind: api.FText, From: 3, To: 2, Id: 3, Ratchet: key(1), Body: long(40)})
	for _, c := range []api.Client{b, linked} {
		wantNoReceive(t, "from 3", c, text, key("g"), api.ErrNone)
		wantNoReceive(t, "from 3, with a wrong key", c, text, "", api.ErrNone)
		wantNoReceive(t, "from 3, too short", c, reframed(t, text, func(f *api.Frame) { f.Body = "" }), key("g"), api.ErrNone)
		wantNoReceive(t, "from 0", c, reframed(t, text, func(f *api.Frame) { f.From = 0 }), key("g"), api.ErrNone)
		wantNoReceive(t, "from the end", c, reframed(t, text, func(f *api.Frame) { f.From = top }), key("g"), api.ErrNone)
	}
	wantNoReceive(t, "from 1", b, reframed(t, text, func(f *api.Frame) { f.From = 1 }), key("g"), api.ErrNone)
	wantNoReceive(t, "from 1, with a link", linked, reframed(t, text, func(f *api.Frame) { f.From, f.Prev = 1, 1 }), key("g"), api.ErrAuth)
}

// P17.3: a first text by another signed key's number, by a one-time key that is none, or by another one than it was made of.
func TestWrongHellos(t *testing.T) {
	b := made(t, 2, 3)
	_, hi := firstText(t, made(t, 1, 0), b, 1, "f", "one")
	_, bare := firstText(t, made(t, 1, 0), b, 0, "f", "one")
	for _, bytes := range []string{hi, bare} {
		for _, n := range []uint64{0, 1, 41, 43, 1<<32 + 42, top} {
			wantNoReceive(t, "another Signed", b, reframed(t, bytes, func(f *api.Frame) { f.Signed = n }), key("g"), api.ErrNone)
		}
		for _, n := range []uint64{3, 42, onceId(3), onceId(1) + 1, onceId(1) - 1, onceId(1) + 1<<32, top} {
			wantNoReceive(t, "a Once of no key", b, reframed(t, bytes, func(f *api.Frame) { f.Once = n }), key("g"), api.ErrNone)
		}
		for _, n := range []uint64{onceId(1), onceId(2)} {
			wantNoReceive(t, "another one's Once", b, reframed(t, bytes, func(f *api.Frame) { f.Once = n }), key("g"), api.ErrAuth)
		}
	}
	wantNoReceive(t, "a Once of 0, where there was one", b, reframed(t, hi, func(f *api.Frame) { f.Once = 0 }), key("g"), api.ErrAuth)
	wantNoReceive(t, "a Once, where there was none", b, reframed(t, bare, func(f *api.Frame) { f.Once = onceId(0) }), key("g"), api.ErrAuth)
	taken := received(t, b, bare, key("g"), 1, "one")
	if len(taken.Once) != 3 {
		t.Errorf("without a one-time key, one goes: %s", told(taken))
	}
	other := changed(b, func(c *api.Client) { c.Signed = api.Point{Id: 43, Point: c.Signed.Point} })
	wantNoReceive(t, "the same key by another number", other, hi, key("g"), api.ErrNone)
	other = changed(b, func(c *api.Client) { c.Identity = key("another one") })
	wantNoReceive(t, "another identity", other, hi, key("g"), api.ErrAuth)
}

// P17.3: each byte of a frame's Body turned in one bit, and each other field changed: it is refused, and the frame itself is taken still.
func TestSpoiltFrames(t *testing.T) {
	t.Parallel()
	b := made(t, 2, 1)
	a, hi := firstText(t, made(t, 1, 0), b, 1, "f", "one")
	linked := received(t, b, hi, key("g"), 1, "one")
	linked, back := sent(t, linked, 1, api.Shelf{}, "", "", "back")
	for i := range len(got(t, hi).Body) {
		spoilt := func(f *api.Frame) { f.Body = turned(f.Body, 8*i+i%8) }
		wantNoReceive(t, fmt.Sprint("a first text, byte ", i), b, reframed(t, hi, spoilt), key("g"), api.ErrAuth)
		wantNoReceive(t, fmt.Sprint("an answer, byte ", i), a, reframed(t, back, spoilt), key("h"), api.ErrAuth)
	}
	for name, spoilt := range map[string]func(*api.Frame){
		"Id":       func(f *api.Frame) { f.Id++ },
		"Identity": func(f *api.Frame) { f.Identity = turned(f.Identity, 9) },
		"Base":     func(f *api.Frame) { f.Base = turned(f.Base, 9) },
		"its end":  func(f *api.Frame) { f.Base = turned(f.Base, 255) },
		"Ratchet":  func(f *api.Frame) { f.Ratchet = turned(f.Ratchet, 9) },
		"Prev":     func(f *api.Frame) { f.Prev++ },
		"N":        func(f *api.Frame) { f.N++ },
		"From":     func(f *api.Frame) { f.From = 3 },
		"Body":     func(f *api.Frame) { f.Body += "x" },
		"its size": func(f *api.Frame) { f.Body = f.Body[1:] },
	} {
		wantNoReceive(t, "a first text, "+name, b, reframed(t, hi, spoilt), key("g"), api.ErrAuth)
		if name != "Identity" && name != "Base" && name != "its end" && name != "From" {
			wantNoReceive(t, "an answer, "+name, a, reframed(t, back, spoilt), key("h"), api.ErrAuth)
		}
	}
	received(t, a, back, key("h"), 2, "back")
	for _, wrong := range wrongKeys() {
		wantNoReceive(t, "a fresh key, first text", b, hi, wrong, api.ErrSize)
		wantNoReceive(t, "a fresh key, answer", a, back, wrong, api.ErrSize)
	}
	for _, many := range []int{0, 1, 31} {
		short := func(f *api.Frame) { f.Body = f.Body[:many] }
		wantNoReceive(t, "a Body too short, first text", b, reframed(t, hi, short), key("g"), api.ErrSize)
		wantNoReceive(t, "a Body too short, answer", a, reframed(t, back, short), key("h"), api.ErrSize)
	}
	wantNoReceive(t, "ahead by 11", b, reframed(t, hi, func(f *api.Frame) { f.N = 11 }), key("g"), api.ErrGap)
	wantNoReceive(t, "ahead by 11, answer", a, reframed(t, back, func(f *api.Frame) { f.N = 11 }), key("g"), api.ErrGap)
}

// arrival is a frame that comes to a client.
type arrival struct {
	c     api.Client
	f     api.Frame
	more  string
	fresh string
}

// fault makes a wrong one of an arrival, with its error.
type fault struct {
	name string
	why  api.Errno
	make func(*arrival)
}

// wantFirst asks that in every set of several faults, the one that is named first is told.
func wantFirst(t *testing.T, what string, right arrival, faults []fault) {
	t.Helper()
	for set := range 1 << len(faults) {
		a, wanted, names := right, api.OK, what
		for i := len(faults) - 1; i >= 0; i-- {
			if set>>i&1 == 1 {
				faults[i].make(&a)
				wanted, names = faults[i].why, names+", "+faults[i].name
			}
		}
		wantNoReceive(t, names, a.c, put(t, a.f)+a.more, a.fresh, wanted)
	}
}

func moreBytes() fault {
	return fault{"more bytes", api.ErrSyntax, func(a *arrival) { a.more = "x" }}
}

func toAnother() fault {
	return fault{"to another one", api.ErrArg, func(a *arrival) { a.f.To = 3 }}
}

func fromOneself() fault {
	return fault{"from oneself", api.ErrArg, func(a *arrival) { a.f.From = a.c.User }}
}

func freshSize() fault {
	return fault{"fresh", api.ErrSize, func(a *arrival) { a.fresh = a.fresh[1:] }}
}

func bodySize() fault {
	return fault{"Body", api.ErrSize, func(a *arrival) { a.f.Body = a.f.Body[:min(len(a.f.Body), 31)] }}
}

func ahead() fault { return fault{"ahead", api.ErrGap, func(a *arrival) { a.f.N = 40 }} }

func spoiltTag() fault {
	return fault{"tag", api.ErrAuth, func(a *arrival) {
		if a.f.Body != "" {
			a.f.Body = turned(a.f.Body, 5)
		}
	}}
}

// P17.3: of a first text, without a link, and with one whose talk does not open it.
func TestHelloErrorsInOrder(t *testing.T) {
	t.Parallel()
	b := made(t, 2, 2)
	_, hi := firstText(t, made(t, 1, 0), b, 1, "f", "one")
	other := made(t, 1, 0)
	other.Identity = key("new identity")
	_, earlier := firstText(t, other, b, 0, "earlier", "zero")
	linked := received(t, b, earlier, key("g"), 1, "zero")
	seen := func(a *arrival) { a.c.Seen = append(slices.Clone(a.c.Seen), key("seen")); a.f.Base = key("seen") }
	faults := []fault{
		moreBytes(), toAnother(), fromOneself(),
		{"Signed", api.ErrNone, func(a *arrival) { a.f.Signed++ }},
		{"Once", api.ErrNone, func(a *arrival) { a.f.Once++ }},
		{"Base", api.ErrOld, seen},
		freshSize(), bodySize(), ahead(), spoiltTag(),
	}
	wantFirst(t, "without a link", arrival{c: b, f: got(t, hi), fresh: key("h")}, faults)
	wantFirst(t, "with a link", arrival{c: linked, f: got(t, hi), fresh: key("h")}, faults)
}

// P17.3: of a text, and of a first text that the link's talk opens: of these, Signed, Once and Base are not asked on their own.
func TestTextErrorsInOrder(t *testing.T) {
	t.Parallel()
	a, b := made(t, 1, 0), made(t, 2, 2)
	a, hi := firstText(t, a, b, 1, "f", "one")
	a, again := sent(t, a, 2, api.Shelf{}, "", "", "again")
	b = received(t, b, hi, key("g"), 1, "one")
	_, back := sent(t, b, 1, api.Shelf{}, "", "", "back")
	common := []fault{freshSize(), bodySize(), ahead(), spoiltTag()}
	noLink := fault{"no link", api.ErrNone, func(a *arrival) { a.f.From = 5 }}
	wantFirst(t, "a text", arrival{c: a, f: got(t, back), fresh: key("h")}, append([]fault{moreBytes(), toAnother(), fromOneself(), noLink}, common...))
	wantFirst(t, "a first text again", arrival{c: b, f: got(t, again), fresh: key("h")}, []fault{moreBytes(), toAnother(), fromOneself()})
	for name, make := range map[string]func(*arrival){
		"fresh": freshSize().make, "Body": bodySize().make, "ahead": ahead().make, "tag": spoiltTag().make,
		"Base": func(a *arrival) { a.f.Base = key("b") }, "Identity": func(a *arrival) { a.f.Identity = key("i") },
	} {
		x := arrival{c: b, f: got(t, again), fresh: key("h")}
		make(&x)
		wantNoReceive(t, "its one-time key is gone, "+name, x.c, put(t, x.f), x.fresh, api.ErrNone)
		x.f.Once = 0
		wanted := map[string]api.Errno{"fresh": api.ErrOld, "Body": api.ErrOld, "ahead": api.ErrOld, "tag": api.ErrOld, "Base": api.ErrAuth, "Identity": api.ErrOld}[name]
		wantNoReceive(t, "without its Once, "+name, x.c, put(t, x.f), x.fresh, wanted)
	}
}

// P17.3, P17.6: the same frame twice.
func TestTwice(t *testing.T) {
	t.Parallel()
	for once := range 2 {
		a, b, fresh := made(t, 1, 0), made(t, 2, 1), keyring("twice")
		a, one := firstText(t, a, b, once, "f", "one")
		a, two := sent(t, a, 2, api.Shelf{}, "", "", "two")
		wanted := []api.Errno{api.ErrOld, api.ErrNone}[once]
		b = received(t, b, one, fresh.next(), 1, "one")
		wantNoReceive(t, "a first text", b, one, fresh.next(), wanted)
		b = received(t, b, two, fresh.next(), 1, "two")
		wantNoReceive(t, "the first again", b, one, fresh.next(), wanted)
		wantNoReceive(t, "the second", b, two, fresh.next(), wanted)
		b, back := sent(t, b, 1, api.Shelf{}, "", "", "back")
		a = received(t, a, back, fresh.next(), 2, "back")
		wantNoReceive(t, "an answer", a, back, fresh.next(), api.ErrOld)
		a, three := sent(t, a, 2, api.Shelf{}, "", "", "three")
		b = received(t, b, three, fresh.next(), 1, "three")
		wantNoReceive(t, "a text", b, three, fresh.next(), api.ErrOld)
		wantNoReceive(t, "the first text, turns later", b, one, fresh.next(), wanted)
		if len(b.Seen) != 1 || len(talks(t, b, 1)) != 1 || len(a.Seen) != 0 {
			t.Errorf("one talk: %s", told(b))
		}
	}
}

// P17.3: the one-time key that was used is gone, and a second first text of it is none, also from others; the other keys stay.
func TestOnceIsUsedOnce(t *testing.T) {
	b, fresh := made(t, 2, 4), keyring("once")
	whole := shelfOf(t, b)
	used := 0
	for i, at := range []int{2, 0, 3, 1} {
		s := whole
		s.Once = s.Once[at:]
		user := uint64(10 + i)
		_, first := sent(t, made(t, user, 0), 2, s, fresh.next(), fresh.next(), "first")
		_, second := sent(t, made(t, user+10, 0), 2, s, fresh.next(), fresh.next(), "second")
		_, same := sent(t, made(t, user, 0), 2, s, fresh.next(), fresh.next(), "same")
		b = received(t, b, first, fresh.next(), user, "first")
		used++
		wantNoReceive(t, "another one's of the same key", b, second, fresh.next(), api.ErrNone)
		wantNoReceive(t, "one's own of the same key", b, same, fresh.next(), api.ErrNone)
		if len(b.Once) != 4-used || slices.ContainsFunc(b.Once, func(p api.Point) bool { return p.Id == onceId(at) }) {
			t.Errorf("key %d is used: %s", at, toldPoints(b.Once))
		}
	}
	_, bare := firstText(t, made(t, 50, 0), b, 0, "bare", "bare")
	received(t, b, bare, fresh.next(), 50, "bare")
}

// P17.3: a Base that is in Seen, of the same user and of another one, with a one-time key that is still there and with none.
func TestBaseIsSeen(t *testing.T) {
	b, fresh := made(t, 2, 3), keyring("seen")
	_, hi := firstText(t, made(t, 1, 0), b, 1, "f", "one")
	b = received(t, b, hi, fresh.next(), 1, "one")
	for once := range 2 {
		_, other := firstText(t, made(t, 3, 0), b, once, "f", "other")
		wantNoReceive(t, "another one's, of the same base", b, other, fresh.next(), api.ErrOld)
		again := made(t, 1, 0)
		again.Identity = key("again")
		_, same := firstText(t, again, b, once, "f", "same")
		wantNoReceive(t, "with a link, of the same base", b, same, fresh.next(), api.ErrOld)
	}
	if len(b.Once) != 2 || len(b.Seen) != 1 {
		t.Errorf("what is refused leaves all: %s", told(b))
	}
	// The same base key may begin talks with others.
	_, elsewhere := firstText(t, made(t, 1, 0), made(t, 4, 1), 1, "f", "one")
	received(t, made(t, 4, 1), elsewhere, fresh.next(), 1, "one")
}

// P17.3: 64 Bases are seen, in order; with the 65th the first goes, and its first text, which had no one-time key, is taken again, as the chapter says.
func TestSeen(t *testing.T) {
	t.Parallel()
	b, fresh := made(t, 2, 2), keyring("64")
	s := shelfByTheWords(b)
	s.Once = nil
	var all, bases []string
	for i := range mostSeen + 2 {
		user := uint64(100 + i%7)
		peer := made(t, user, 0)
		peer.Next = uint64(i)
		_, bytes, why := client.Send(peer, 2, s, key("base", i), key("fresh", i), fmt.Sprint(i))
		wantErr(t, "Send", why, api.OK)
		all, bases = append(all, bytes), append(bases, pointOf(key("base", i)))
		out, event, why := client.Receive(b, bytes, fresh.next())
		wantErr(t, fmt.Sprint("text ", i), why, api.OK)
		want(t, "text", toldEvent(event), toldEvent(api.Event{From: user, Text: fmt.Sprint(i)}))
		b = out
		if wanted := bases[max(0, i+1-64):]; !slices.Equal(b.Seen, wanted) {
			t.Fatalf("behind %d: %x; wanted %x", i, b.Seen, wanted)
		}
		if i == 0 || i == 62 || i == 63 {
			wantNoReceive(t, fmt.Sprint("the first, behind ", i), b, all[0], fresh.next(), api.ErrOld)
		}
	}
	for _, i := range []int{2, 3, 40, 65} {
		wantNoReceive(t, fmt.Sprint("one that is seen still: ", i), b, all[i], fresh.next(), api.ErrOld)
	}
	b = received(t, b, all[1], fresh.next(), 101, "1")
	b = received(t, b, all[0], fresh.next(), 100, "0")
	if !slices.Equal(b.Seen, append(slices.Clone(bases[4:]), bases[1], bases[0])) {
		t.Errorf("seen: %x", b.Seen)
	}
	for _, l := range b.Links {
		if len(l.Talks) != 2 {
			t.Errorf("%d talks with %d", len(l.Talks), l.Peer)
		}
	}
}

// P17.3, P17.6: both write at once: two talks each; the talk that opened the last frame comes first.
func TestBothAtOnce(t *testing.T) {
	t.Parallel()
	a, b, fresh := made(t, 1, 1), made(t, 2, 1), keyring("both")
	shelves := []api.Shelf{shelfOf(t, a), shelfOf(t, b)}
	a, one := sent(t, a, 2, shelves[1], key("base a"), key("fresh a"), "one")
	b, two := sent(t, b, 1, shelves[0], key("base b"), key("fresh b"), "two")
	a, more := sent(t, a, 2, shelves[1], "", "", "more")
	mine := talks(t, a, 2)[0]
	a = received(t, a, two, fresh.next(), 2, "two")
	l := talks(t, a, 2)
	if len(l) != 2 || l[0].Hello.Base != "" || l[1].Hello.Base != mine.Hello.Base {
		t.Errorf("the new talk comes first, and the own one keeps its Hello: %s", toldLinks(a.Links))
	}
	want(t, "the own session", toldSession(l[1].Session), toldSession(mine.Session))
	b = received(t, b, one, fresh.next(), 1, "one")
	b = received(t, b, more, fresh.next(), 1, "more")
	a, three := sent(t, a, 2, api.Shelf{}, "", "", "three") // by b's talk
	if got(t, three).Kind != api.FText {
		t.Error("the first talk has no Hello, but a text has one")
	}
	b, four := sent(t, b, 1, api.Shelf{}, "", "", "four") // by a's talk
	b = received(t, b, three, fresh.next(), 1, "three")
	l = talks(t, b, 1)
	if len(l) != 2 || l[0].Hello.Base != "" || l[1].Hello.Base != "" || l[0].Session.Sent != 0 {
		t.Errorf("b's own talk comes first: %s", toldLinks(b.Links))
	}
	a = received(t, a, four, fresh.next(), 2, "four")
	if l := talks(t, a, 2); len(l) != 2 || l[0].Hello.Base != "" || l[1].Hello.Base != "" {
		t.Errorf("a's own talk comes first, without its Hello: %s", toldLinks(a.Links))
	}
	a, five := sent(t, a, 2, api.Shelf{}, "", "", "five")
	b, six := sent(t, b, 1, api.Shelf{}, "", "", "six")
	a = received(t, a, six, fresh.next(), 2, "six")
	b = received(t, b, five, fresh.next(), 1, "five")
	for _, bytes := range []string{two, four, six} {
		if _, _, why := receive(t, a, bytes, fresh.next()); why == api.OK {
			t.Error("a took a text twice")
		}
	}
	for _, bytes := range []string{one, more, three, five} {
		if _, _, why := receive(t, b, bytes, fresh.next()); why == api.OK {
			t.Error("b took a text twice")
		}
	}
	if len(a.Once)+len(b.Once) != 0 || len(a.Seen) != 1 || len(b.Seen) != 1 || a.Next != 4 || b.Next != 3 {
		t.Errorf("behind all: %s\n%s", told(a), told(b))
	}
}

// P17.3: of two talks that don't open a text, the first one's error is told; of a first text, the new one's.
func TestErrorOfTheFirstTalk(t *testing.T) {
	a, b, fresh := made(t, 1, 2), made(t, 2, 2), keyring("first talk")
	shelves := []api.Shelf{shelfOf(t, a), shelfOf(t, b)}
	a, one := sent(t, a, 2, shelves[1], key("base a"), key("fresh a"), "one")
	b, two := sent(t, b, 1, shelves[0], key("base b"), key("fresh b"), "two")
	a = received(t, a, two, fresh.next(), 2, "two")
	b = received(t, b, one, fresh.next(), 1, "one")
	a, three := sent(t, a, 2, api.Shelf{}, "", "", "three")
	a, four := sent(t, a, 2, api.Shelf{}, "", "", "four")
	seenTwice := got(t, three)
	// b's first talk is a's: of it, three has another ratchet; the second one has taken it.
	behind := received(t, b, three, fresh.next(), 1, "three")
	wantNoReceive(t, "the first talk took it", behind, three, fresh.next(), api.ErrOld)
	back := changed(behind, func(c *api.Client) { slices.Reverse(c.Links[0].Talks) })
	s, _, why := session.Open(back.Links[0].Talks[0].Session, seenTwice, key("g"))
	if why == api.ErrOld || why == api.OK {
		t.Fatalf("the other talk: %s, error %d", toldSession(s), why)
	}
	wantNoReceive(t, "the second talk took it", back, three, fresh.next(), why)
	front := received(t, back, four, fresh.next(), 1, "four")
	want(t, "the second talk comes first", toldSession(front.Links[0].Talks[1].Session), toldSession(back.Links[0].Talks[0].Session))
	far := func(f *api.Frame) { f.N = 60 }
	wantNoReceive(t, "too far of the first talk", behind, reframed(t, four, far), fresh.next(), api.ErrGap)
	wantNoReceive(t, "a first text to both", behind, reframed(t, one, func(f *api.Frame) { f.Once, f.Base = 0, key("b") }), fresh.next(), api.ErrAuth)
	wantNoReceive(t, "a first text to both, far", behind, reframed(t, one, func(f *api.Frame) { f.Once, f.Base, f.N = 0, key("b"), 11 }), fresh.next(), api.ErrGap)
}

// P17.3: a third talk: the last one goes. Who begins anew has lost its links, and still is understood.
func TestThirdTalk(t *testing.T) {
	t.Parallel()
	a, fresh := made(t, 1, 5), keyring("third")
	var peers []api.Client // user 2, each time anew
	var hellos, later []string
	for i := range 4 {
		s := shelfOf(t, a)
		s.Once = s.Once[i%2:]
		b, hi := sent(t, made(t, 2, 0), 1, s, fresh.next(), fresh.next(), fmt.Sprint("hello ", i))
		b, more := sent(t, b, 1, s, "", "", fmt.Sprint("later ", i))
		a = received(t, a, hi, fresh.next(), 2, fmt.Sprint("hello ", i))
		peers, hellos, later = append(peers, b), append(hellos, hi), append(later, more)
		l := talks(t, a, 2)
		if len(l) != min(i+1, 2) || len(a.Once) != 4-i || len(a.Seen) != i+1 {
			t.Errorf("%d talks behind hello %d: %s", len(l), i, told(a))
		}
		if l[0].Session.Used == nil || len(l[0].Session.Used) != 1 || l[0].Session.Got != 1 {
			t.Errorf("the new talk comes first: %s", toldLinks(a.Links))
		}
	}
	for i, bytes := range hellos {
		wantNoReceive(t, fmt.Sprint("hello again ", i), a, bytes, fresh.next(), api.ErrNone)
	}
	wantNoReceive(t, "a talk that is gone", a, later[0], fresh.next(), api.ErrNone)
	wantNoReceive(t, "a talk that is gone", a, later[1], fresh.next(), api.ErrNone)
	old := a
	a = received(t, a, later[2], fresh.next(), 2, "later 2")
	want(t, "the other one stays", toldSession(talks(t, a, 2)[1].Session), toldSession(talks(t, old, 2)[0].Session))
	// The talk that comes last now is that of the fourth: it goes with the fifth.
	s := shelfOf(t, a)
	s.Once = nil
	_, hi := sent(t, made(t, 2, 0), 1, s, fresh.next(), fresh.next(), "fifth")
	a = received(t, a, hi, fresh.next(), 2, "fifth")
	wantNoReceive(t, "the fourth is gone", a, later[3], fresh.next(), api.ErrNone)
	a, back := sent(t, a, 2, api.Shelf{}, "", "", "back")
	for i, b := range peers {
		if _, _, why := receive(t, b, back, fresh.next()); why == api.OK {
			t.Errorf("talk %d opens what the fifth sealed", i)
		}
	}
	wantNoReceive(t, "the third, still there, has taken it", a, later[2], fresh.next(), api.ErrNone)
}

// P17.3: keys come from whoever tells them, with a link or without, and leave the client; no fresh key is asked.
func TestKeysCome(t *testing.T) {
	a, b := made(t, 1, 0), made(t, 2, 1)
	a, hi := firstText(t, a, b, 1, "f", "one")
	linked := received(t, b, hi, key("g"), 1, "one")
	for _, c := range []api.Client{b, linked} {
		for _, from := range []uint64{0, 1, 3, top} {
			for _, many := range []int{0, 1, 2, 31, mostKeys} {
				var keys []string
				for i := range many {
					keys = append(keys, key("told", i))
				}
				bytes := put(t, api.Frame{Kind: api.FReveal, From: from, To: 2, Id: top, Keys: keys})
				for _, fresh := range []string{"", key("g"), long(33)} {
					out, event, why := receive(t, c, bytes, fresh)
					wantErr(t, "keys", why, api.OK)
					want(t, "the client stays", told(out), told(c))
					want(t, "the event", toldEvent(event), toldEvent(api.Event{From: from, Keys: keys}))
				}
			}
		}
	}
	// Keys that are told twice come twice.
	_, bytes, keys := revealed(t, linked, 1, 32)
	for range 2 {
		out, event, why := receive(t, a, bytes, "")
		wantErr(t, "keys", why, api.OK)
		want(t, "the event", toldEvent(event), toldEvent(api.Event{From: 2, Keys: keys}))
		a = out
	}
}

// chatty is a client 2 whose talk with 1 has so many keys that are used no more (40 at most), and the client 1.
func chatty(t *testing.T, many int) (api.Client, api.Client) {
	t.Helper()
	a, b := made(t, 1, 0), made(t, 2, 1)
	s := shelfByTheWords(b)
	for i := range many {
		out, bytes, why := client.Send(a, 2, s, key("base"), key("fresh"), fmt.Sprint(i))
		wantErr(t, "Send", why, api.OK)
		a = out
		out, _, why = client.Receive(b, bytes, key("g", i))
		wantErr(t, "Receive", why, api.OK)
		b = out
	}
	return b, a
}

// P17.4: as many keys as most at most, the first ones, which go; of links whose talk has 0 to 41 of them.
func TestReveal(t *testing.T) {
	t.Parallel()
	for _, many := range []int{1, 2, 39, 40, 41} {
		b, a := chatty(t, many)
		used := talks(t, b, 1)[0].Session.Used
		for _, most := range []int{0, 1, 2, 31, 32} {
			out, bytes, keys := revealed(t, b, 1, most)
			left := talks(t, out, 1)[0].Session.Used
			if told := min(most, len(used)); !slices.Equal(keys, used[:told]) || !slices.Equal(left, used[told:]) || out.Next != b.Next+1 {
				t.Errorf("%d of %d: told %x, left %x", most, many, keys, left)
			}
			want(t, "its frame", toldFrame(got(t, bytes)), toldFrame(api.Frame{Kind: api.FReveal, From: 2, To: 1, Keys: keys}))
			_, event, why := receive(t, a, bytes, key("g"))
			wantErr(t, "keys", why, api.OK)
			want(t, "the event", toldEvent(event), toldEvent(api.Event{From: 2, Keys: keys}))
			_, _, again := revealed(t, out, 1, 32)
			if wanted := left[:min(32, len(left))]; !slices.Equal(again, wanted) {
				t.Errorf("told again: %x; wanted %x", again, wanted)
			}
		}
		for _, most := range []int{-1, -32, 33, 34, 40, 41, 64, 256, 1<<32 + 1, math.MinInt, math.MaxInt} {
			wantNoTell(t, "so many", b, 1, most, api.ErrSize)
		}
	}
	b, a := chatty(t, 1)
	for _, to := range []uint64{0, 2, 3, top} {
		for _, most := range []int{0, 5, -1, 33} {
			wantNoTell(t, "no link", b, to, most, api.ErrNone)
			wantNoTell(t, "no links", made(t, 9, 1), to, most, api.ErrNone)
		}
	}
	// Who began has not taken a text yet: there is no key.
	if _, _, keys := revealed(t, a, 2, 32); len(keys) != 0 {
		t.Errorf("keys of no text: %x", keys)
	}
}

// P17.4: the first talk's keys alone are told; the Ids of texts and of keys are one row.
func TestRevealOfTheFirstTalk(t *testing.T) {
	a, b, fresh := made(t, 1, 1), made(t, 2, 1), keyring("of the first")
	shelves := []api.Shelf{shelfOf(t, a), shelfOf(t, b)}
	a, one := sent(t, a, 2, shelves[1], key("base a"), key("fresh a"), "one")
	b, two := sent(t, b, 1, shelves[0], key("base b"), key("fresh b"), "two")
	a = received(t, a, two, fresh.next(), 2, "two")
	b = received(t, b, one, fresh.next(), 1, "one")
	b, three := sent(t, b, 1, shelves[0], "", "", "three")
	a = received(t, a, three, fresh.next(), 2, "three")
	l := talks(t, a, 2)
	a, _, keys := revealed(t, a, 2, 32)
	if !slices.Equal(keys, l[0].Session.Used) || len(keys) != 1 || len(talks(t, a, 2)[1].Session.Used) != 1 {
		t.Errorf("keys of the first talk: %x\n%s", keys, toldLinks(a.Links))
	}
	for what, f := range map[string]api.Frame{"the one that was taken last": got(t, three), "the one ahead of it": got(t, two), "the own one": got(t, one)} {
		is, why := reveal.Covers(keys, f)
		if wanted := what == "the one that was taken last"; is != wanted || why != api.OK {
			t.Errorf("%s is covered: %v, error %d", what, is, why)
		}
	}
	a, bytes := sent(t, a, 2, api.Shelf{}, "", "", "four")
	if f := got(t, bytes); f.Id != 2 || a.Next != 3 {
		t.Errorf("behind keys: %s", toldFrame(f))
	}
	a, bytes, _ = revealed(t, a, 2, 0)
	if f := got(t, bytes); f.Id != 3 || a.Next != 4 {
		t.Errorf("behind a text: %s", toldFrame(f))
	}
}

// P17.4, and P5 of the whole: by a key that was told, another text of as many bytes is taken in the place of the first one.
func TestToldKeysProveNothing(t *testing.T) {
	a, b := made(t, 1, 0), made(t, 2, 1)
	ahead := b
	_, bytes := firstText(t, a, b, 1, "f", "yes")
	b = received(t, b, bytes, key("g"), 1, "yes")
	_, _, keys := revealed(t, b, 1, 32)
	f, why := reveal.Change(keys, got(t, bytes), "yes", "nay")
	wantErr(t, "Change", why, api.OK)
	received(t, ahead, put(t, f), key("g"), 1, "nay")
	wantNoReceive(t, "of another key", ahead, reframed(t, bytes, func(f *api.Frame) {
		body, _ := lock.Again(key("x"), "head", f.Body[:3])
		f.Body = body
	}), key("g"), api.ErrAuth)
}

// flight is a text on its way.
type flight struct {
	from, to    int
	bytes, text string
}

// crowd are clients of users 1, 2 and so on, the shelves of them that are told, what is on its way between them, and what has come.
type crowd struct {
	clients        []api.Client
	shelves        []api.Shelf
	keys           keyring
	flying, landed []flight
}

func newCrowd(t *testing.T, many, once int, name string) *crowd {
	t.Helper()
	w := &crowd{keys: keyring(name)}
	for i := range many {
		w.clients = append(w.clients, made(t, uint64(i+1), once))
		w.shelves = append(w.shelves, shelfByTheWords(w.clients[i]))
	}
	return w
}

// onTheWay is how many texts fly from one to another.
func (w *crowd) onTheWay(from, to int) int {
	many := 0
	for _, f := range w.flying {
		if f.from == from && f.to == to {
			many++
		}
	}
	return many
}

// send sends a text; who begins takes the one-time point that it uses from the shelf.
func (w *crowd) send(t *testing.T, from, to int, text string) {
	t.Helper()
	s := w.shelves[to]
	if linkOf(w.clients[from], uint64(to+1)) < 0 && len(s.Once) > 0 {
		w.shelves[to].Once = s.Once[1:]
	}
	var bytes string
	w.clients[from], bytes = sent(t, w.clients[from], uint64(to+1), s, w.keys.next(), w.keys.next(), text)
	w.flying = append(w.flying, flight{from, to, bytes, text})
}

// land has a text come that flies.
func (w *crowd) land(t *testing.T, at int) {
	t.Helper()
	f := w.flying[at]
	w.clients[f.to] = received(t, w.clients[f.to], f.bytes, w.keys.next(), uint64(f.from+1), f.text)
	w.flying = slices.Delete(w.flying, at, at+1)
	w.landed = append(w.landed, f)
}

// refuse has bytes come that are refused, by whatever error.
func (w *crowd) refuse(t *testing.T, what string, to int, bytes string) {
	t.Helper()
	if _, event, why := receive(t, w.clients[to], bytes, w.keys.next()); why == api.OK {
		t.Errorf("%s is taken: %s", what, toldEvent(event))
	}
}

// reveal has one tell keys to another, and asks that each covers a frame that came to the one.
func (w *crowd) reveal(t *testing.T, rnd *rand.Rand, from, to int) {
	t.Helper()
	if linkOf(w.clients[from], uint64(to+1)) < 0 {
		wantNoTell(t, "no link", w.clients[from], uint64(to+1), 3, api.ErrNone)
		return
	}
	c, bytes, keys := revealed(t, w.clients[from], uint64(to+1), rnd.Intn(5))
	w.clients[from] = c
	out, event, why := receive(t, w.clients[to], bytes, "")
	wantErr(t, "keys", why, api.OK)
	want(t, "keys", toldEvent(event), toldEvent(api.Event{From: uint64(from + 1), Keys: keys}))
	w.clients[to] = out
	for _, key := range keys {
		if !slices.ContainsFunc(w.landed, func(f flight) bool {
			is, _ := reveal.Covers([]string{key}, got(t, f.bytes))
			return is && f.to == from && f.from == to
		}) {
			t.Errorf("a key that covers nothing: %x", key)
		}
	}
}

// oneOf is one of many things that happen.
func (w *crowd) oneOf(t *testing.T, rnd *rand.Rand, round, window int) {
	t.Helper()
	from := rnd.Intn(len(w.clients))
	to := (from + 1 + rnd.Intn(len(w.clients)-1)) % len(w.clients)
	switch kind := rnd.Intn(12); {
	case kind < 5:
		if w.onTheWay(from, to) < window {
			w.send(t, from, to, fmt.Sprintf("text %d from %d to %d", round, from, to))
		}
	case kind < 9:
		if len(w.flying) > 0 {
			w.land(t, rnd.Intn(len(w.flying)))
		}
	case kind == 9:
		if len(w.landed) > 0 {
			f := w.landed[rnd.Intn(len(w.landed))]
			w.refuse(t, "a text that was taken", f.to, f.bytes)
		}
	case kind == 10:
		if len(w.flying) > 0 {
			f := w.flying[rnd.Intn(len(w.flying))]
			bit := rnd.Intn(8 * len(got(t, f.bytes).Body))
			w.refuse(t, "a spoilt text", f.to, reframed(t, f.bytes, func(f *api.Frame) { f.Body = turned(f.Body, bit) }))
			w.refuse(t, "the own text", f.from, f.bytes)
		}
	default:
		w.reveal(t, rnd, from, to)
	}
}

// P17.6: clients write to each other, whoever begins, or several at once, in any order within the gaps: each text is taken once. What comes again, or is spoilt, is refused and leaves all.
func TestAnyOrder(t *testing.T) {
	t.Parallel()
	for seed := range int64(8) {
		t.Run(fmt.Sprint(seed), func(t *testing.T) {
			t.Parallel()
			rnd := rand.New(rand.NewSource(seed))
			w := newCrowd(t, 2+int(seed)%2, int(seed/2)%4, fmt.Sprint("crowd ", seed))
			rounds := 150
			for round := range rounds {
				w.oneOf(t, rnd, round, 1+int(seed*3)%mostGap)
			}
			for len(w.flying) > 0 {
				w.land(t, rnd.Intn(len(w.flying)))
			}
			for _, f := range w.landed {
				w.refuse(t, "a text that was taken", f.to, f.bytes)
			}
			for _, c := range w.clients {
				for _, l := range c.Links {
					if len(l.Talks) == 0 || len(l.Talks) > 2 {
						t.Errorf("%d talks", len(l.Talks))
					}
				}
			}
			if len(w.landed) < rounds/5 {
				t.Errorf("%d texts came", len(w.landed))
			}
		})
	}
}

// P17.6: as many texts overtake each other as the gaps allow, of those that begin a talk, by whoever begins, or both at once, and behind answers.
func TestLastFirst(t *testing.T) {
	t.Parallel()
	for begins := 1; begins <= 3; begins++ {
		t.Run(fmt.Sprint(begins), func(t *testing.T) {
			t.Parallel()
			w := newCrowd(t, 2, 1, fmt.Sprint("last first ", begins))
			for turn := range 4 {
				for i := range mostGap + 1 {
					for from := range 2 {
						if turn > 0 || begins>>from&1 == 1 {
							w.send(t, from, 1-from, fmt.Sprintf("turn %d, %d of %d", turn, i, from))
						}
					}
				}
				for len(w.flying) > 0 {
					w.land(t, len(w.flying)-1)
				}
			}
			if wanted := []int{0, 7 * 11, 7 * 11, 8 * 11}[begins]; len(w.landed) != wanted {
				t.Errorf("%d texts came; wanted %d", len(w.landed), wanted)
			}
			for _, f := range w.landed {
				w.refuse(t, "a text that was taken", f.to, f.bytes)
			}
		})
	}
}

// P17.6: twelve left out are too many; it leaves the client, which takes them in order then.
func TestTooManyLeftOut(t *testing.T) {
	t.Parallel()
	w := newCrowd(t, 2, 1, "too many")
	for i := range 13 {
		w.send(t, 0, 1, fmt.Sprint(i))
	}
	wantNoReceive(t, "12 left out, first texts", w.clients[1], w.flying[12].bytes, key("g"), api.ErrGap)
	wantNoReceive(t, "11 left out, first texts", w.clients[1], w.flying[11].bytes, key("g"), api.ErrGap)
	for range 13 {
		w.land(t, 0)
	}
	for i := range 13 {
		w.send(t, 1, 0, fmt.Sprint("back ", i))
	}
	wantNoReceive(t, "12 left out", w.clients[0], w.flying[12].bytes, key("g"), api.ErrGap)
	wantNoReceive(t, "11 left out", w.clients[0], w.flying[11].bytes, key("g"), api.ErrGap)
	w.land(t, 10)
	w.land(t, 11)
	for len(w.flying) > 0 {
		w.land(t, 0)
	}
}

// P17.6: a user without one-time points: first texts still come, each base point once.
func TestWithoutOnce(t *testing.T) {
	b, fresh := made(t, 2, 0), keyring("without")
	for i := range 4 {
		a, one := firstText(t, made(t, uint64(10+i), 0), b, 0, fmt.Sprint(i), "one")
		_, two := sent(t, a, 2, api.Shelf{}, "", "", "two")
		b = received(t, b, two, fresh.next(), uint64(10+i), "two")
		b = received(t, b, one, fresh.next(), uint64(10+i), "one")
		wantNoReceive(t, "again", b, one, fresh.next(), api.ErrOld)
		wantNoReceive(t, "again", b, two, fresh.next(), api.ErrOld)
	}
	if len(b.Seen) != 4 || len(b.Links) != 4 {
		t.Errorf("four users: %s", told(b))
	}
}

// busy is a client, user 2, with links of one talk and of two, keys that are kept and used, one-time keys and Bases; and frames that it takes, each: of the first talk and the second one, of a key that is kept, ahead of others, of new talks with a one-time key and without, of a third talk, and of keys.
func busy(t *testing.T) (api.Client, map[string]string) {
	t.Helper()
	w := newCrowd(t, 2, 6, "busy")
	w.send(t, 0, 1, "one")
	w.send(t, 1, 0, "two")
	w.land(t, 1)
	w.land(t, 0)
	out := map[string]string{}
	_, out["of the second talk"] = sent(t, w.clients[0], 2, api.Shelf{}, "", "", "by the second")
	w.send(t, 1, 0, "three")
	w.land(t, 0)
	_, out["of the first talk"] = sent(t, w.clients[0], 2, api.Shelf{}, "", "", "by the first")
	c := w.clients[1]
	for _, user := range []uint64{3, 8} {
		a, name := made(t, user, 0), fmt.Sprint("busy ", user)
		var l []string
		a, hi := firstText(t, a, c, int(user)%2, name, "0")
		l = append(l, hi)
		for i := range 6 {
			a, hi = sent(t, a, 2, api.Shelf{}, "", "", fmt.Sprint(i+1))
			l = append(l, hi)
		}
		c = received(t, c, l[3], key("g", user), user, "3")
		c = received(t, c, l[1], key("h", user), user, "1")
		out["kept of "+name], out["ahead of "+name] = l[2], l[5]
	}
	c, _ = firstText(t, c, made(t, 5, 1), 1, "busy to 5", "begun")
	c, _ = sent(t, c, 3, api.Shelf{}, "", "", "back")
	_, out["a new talk"] = firstText(t, made(t, 7, 0), c, 1, "new", "new")
	_, out["a new talk without a one-time key"] = firstText(t, made(t, 7, 0), c, 0, "new", "new")
	_, out["a second talk"] = firstText(t, made(t, 8, 0), c, 1, "second", "second")
	_, out["a third talk"] = firstText(t, made(t, 1, 0), c, 1, "third", "third")
	out["keys"] = put(t, api.Frame{Kind: api.FReveal, From: 9, To: 2, Keys: []string{key(1), key(2), key(3)}})
	return c, out
}

// withRoom is a list with other things in the room behind its end.
func withRoom[T any](l []T, room ...T) []T { return slices.Concat(l, room, room)[:len(l)] }

// roomy is the client with room behind the ends of all its lists, in which there are other things.
func roomy(c api.Client) api.Client {
	c = copied(c)
	for i := range c.Links {
		for j := range c.Links[i].Talks {
			talk := &c.Links[i].Talks[j]
			talk.Session.Kept = withRoom(talk.Session.Kept, api.Kept{Ratchet: key("room"), N: 7, Key: key("room")})
			talk.Session.Used = withRoom(talk.Session.Used, key("room"), "room")
			talk.Hello.Keys = withRoom(talk.Hello.Keys, key("room"))
		}
		c.Links[i].Talks = withRoom(c.Links[i].Talks, api.Talk{Hello: api.Frame{Base: key("room")}}, api.Talk{})
	}
	c.Links = withRoom(c.Links, api.Link{Peer: 77, Talks: []api.Talk{{}}}, api.Link{Peer: 1})
	c.Once = withRoom(c.Once, api.Point{Id: 77, Point: key("room")}, api.Point{})
	c.Seen = withRoom(c.Seen, key("room"), "")
	return c
}

// spoil writes over a list and the room behind its end.
func spoil[T any](l []T, with T) {
	l = l[:cap(l)]
	for i := range l {
		l[i] = with
	}
}

func spoilTalks(l []api.Talk) {
	for _, talk := range l[:cap(l)] {
		spoil(talk.Session.Kept, api.Kept{Key: "spoilt"})
		spoil(talk.Session.Used, "spoilt")
		spoil(talk.Hello.Keys, "spoilt")
	}
	spoil(l, api.Talk{Hello: api.Frame{Id: 54321}})
}

func spoilClient(c api.Client) {
	for _, l := range c.Links[:cap(c.Links)] {
		spoilTalks(l.Talks)
	}
	spoil(c.Links, api.Link{Peer: 54321})
	spoil(c.Once, api.Point{Id: 54321})
	spoil(c.Seen, "spoilt")
}

// answer is what a call tells, and what it was when it was told.
type answer struct {
	name   string
	c      api.Client
	s      api.Shelf
	v      api.Event
	before string
}

func (a answer) all() string { return told(a.c) + toldShelf(a.s) + toldEvent(a.v) }

func (a answer) stays(t *testing.T, what string) {
	t.Helper()
	want(t, a.name+": "+what, a.all(), a.before)
}

func (a answer) spoil() {
	spoilClient(a.c)
	spoil(a.s.Once, api.Point{Id: 54321})
	spoil(a.v.Keys, "spoilt")
}

// answers are those of all calls that tell something, at one client: those of frames that come by their names.
func answers(t *testing.T, c api.Client, frames map[string]string) []answer {
	t.Helper()
	var out []answer
	add := func(name string, a answer, why api.Errno) {
		t.Helper()
		if why != api.OK {
			t.Errorf("%s: error %d", name, why)
		}
		a.name, a.before = name, a.all()
		out = append(out, a)
	}
	add("Shelf", answer{s: shelfOf(t, c)}, api.OK)
	other := shelfByTheWords(made(t, 4, 2))
	for _, to := range []uint64{1, 3, 4, 5, 8} {
		next, _, why := send(t, c, to, other, key("base 4"), key("fresh 4"), "text")
		add(fmt.Sprint("Send to ", to), answer{c: next}, why)
		if to == 4 {
			continue
		}
		next, _, why = tell(t, c, to, 1)
		add(fmt.Sprint("Reveal to ", to), answer{c: next}, why)
	}
	for _, name := range slices.Sorted(maps.Keys(frames)) {
		next, event, why := receive(t, c, frames[name], key("fresh of", name))
		add(name, answer{c: next, v: event}, why)
	}
	return out
}

// R4: no call changes what it was handed, nor what stands in the room behind its ends; what is told of what was told leaves it.
func TestNothingIsChanged(t *testing.T) {
	t.Parallel()
	c, frames := busy(t)
	c = roomy(c)
	before := toldWhole(c)
	first := answers(t, c, frames)
	for _, a := range first[1:] {
		whole := toldWhole(a.c)
		next, _ := sent(t, a.c, 3, api.Shelf{}, "", "", "next")
		wantNoSend(t, "next", next, 2, api.Shelf{}, "", "", "next", api.ErrArg)
		next, _, _ = revealed(t, next, 1, 2)
		for _, name := range []string{"a new talk", "kept of busy 3", "ahead of busy 8", "of the first talk"} {
			receive(t, next, frames[name], key("later"))
		}
		want(t, a.name+": what was told, with its room", toldWhole(a.c), whole)
	}
	for _, a := range first {
		a.stays(t, "what was told")
	}
	want(t, "the client, with its room", toldWhole(c), before)
	s := api.Shelf{Once: append(shelfByTheWords(made(t, 4, 2)).Once, api.Point{Id: 3})[:2]}
	sent(t, c, 1, s, "", "", "with a shelf that is not asked")
}

// R4: what is done with an answer is not to be seen in what was handed in, nor in another answer; nor what is done with what was handed in, in an answer.
func TestAnswersAreTheirOwn(t *testing.T) {
	t.Parallel()
	c, frames := busy(t)
	c = roomy(c)
	before := toldWhole(c)
	first := answers(t, c, frames)
	for i, a := range first {
		a.spoil()
		want(t, a.name+": the client", toldWhole(c), before)
		for _, later := range first[i+1:] {
			later.stays(t, "another answer")
		}
	}
	again := answers(t, c, frames)
	spoilClient(c)
	for _, a := range again {
		a.stays(t, "when what was handed in is spoilt")
	}
	once := onceKeys(3, 4)
	own := wantBuild(t, "own", 3, key("i"), signedKey(3), once, api.OK)
	whole := told(own)
	spoil(once, api.Point{Id: 54321})
	want(t, "Make, when what was handed in is spoilt", told(own), whole)
}

// R4: one list of an answer alone is spoilt, also behind its end: the others stay.
func TestListsOfAnAnswerAreTheirOwn(t *testing.T) {
	t.Parallel()
	c, frames := busy(t)
	for _, a := range answers(t, c, frames) {
		for i := range a.c.Links {
			one := &a.c.Links[i]
			for j := range one.Talks {
				s := &one.Talks[j].Session
				left := func() string {
					return told(changed(a.c, func(c *api.Client) {
						c.Links[i].Talks[j].Session.Kept, c.Links[i].Talks[j].Session.Used = nil, nil
					}))
				}
				wanted := left()
				spoil(s.Kept, api.Kept{N: 54321})
				spoil(s.Used, "spoilt")
				want(t, fmt.Sprintf("%s: all but the lists of talk %d of link %d", a.name, j, i), left(), wanted)
			}
			left := func() string { return told(changed(a.c, func(c *api.Client) { c.Links[i].Talks = nil })) }
			wanted := left()
			spoil(one.Talks, api.Talk{})
			want(t, fmt.Sprintf("%s: all but link %d", a.name, i), left(), wanted)
		}
	}
}

// R4: a client whose lists are shared with another one's, and with each other.
func TestSharedLists(t *testing.T) {
	t.Parallel()
	c, frames := busy(t)
	for i := range c.Links {
		for j := range c.Links[i].Talks {
			c.Links[i].Talks[j].Session.Used = c.Links[0].Talks[0].Session.Used
		}
	}
	other := c
	before := told(other)
	for _, a := range answers(t, c, frames) {
		spoilClient(a.c)
	}
	want(t, "the other one", told(other), before)
}

// R1: no answer hangs on a call ahead of it: told again, backwards, with other calls between.
func TestNothingIsKept(t *testing.T) {
	t.Parallel()
	c, frames := busy(t)
	other := shelfByTheWords(made(t, 4, 2))
	var calls []func() string
	for _, at := range []api.Client{c, made(t, 2, 6)} {
		for _, to := range []uint64{1, 2, 4} {
			calls = append(calls,
				func() string {
					next, bytes, why := client.Send(at, to, other, key("b"), key("f"), "text")
					return fmt.Sprintf("%s %x %d", told(next), bytes, why)
				},
				func() string {
					next, bytes, why := client.Reveal(at, to, 3)
					return fmt.Sprintf("%s %x %d", told(next), bytes, why)
				})
		}
		for _, name := range slices.Sorted(maps.Keys(frames)) {
			calls = append(calls, func() string {
				next, event, why := client.Receive(at, frames[name], key("g"))
				return fmt.Sprintf("%s %s %d", told(next), toldEvent(event), why)
			})
		}
		calls = append(calls, func() string {
			s, why := client.Shelf(at)
			own, wrong := client.Make(3, key("i"), signedKey(3), at.Once)
			return fmt.Sprint(toldShelf(s), why, told(own), wrong)
		})
	}
	var first []string
	for _, call := range calls {
		first = append(first, call())
	}
	for i := len(calls) - 1; i >= 0; i-- {
		want(t, fmt.Sprint("call ", i), calls[i](), first[i])
	}
}

// P1: a great many bytes are refused within a moment.
func TestGreatMany(t *testing.T) {
	c := made(t, 2, 1)
	great := strings.Repeat("\x00", 1<<27)
	_, _, why := client.Receive(c, great, "")
	wantErr(t, "a great many bytes", why, api.ErrSyntax)
	_, _, why = client.Receive(c, "\x00\x01\x01\x01\x02"+great, great)
	wantErr(t, "a great many bytes of a frame", why, api.ErrSyntax)
	s := shelfByTheWords(made(t, 1, 1))
	_, _, why = client.Send(c, 1, s, great, great, great)
	wantErr(t, "great keys", why, api.ErrSize)
	_, _, why = client.Send(c, 1, s, key(1), key(2), great)
	wantErr(t, "a great text", why, api.ErrSize)
	s.Once = make([]api.Point, 1<<20)
	_, _, why = client.Send(c, 1, s, key(1), key(2), "text")
	wantErr(t, "a great shelf", why, api.ErrNone)
	_, why = client.Make(1, great, signedKey(1), nil)
	wantErr(t, "a great identity", why, api.ErrSize)
}

// FuzzAll has bytes come, as they are and as a frame's parts, to a client without links and to a busy one.
func FuzzAll(f *testing.F) {
	var once sync.Once
	var c api.Client
	var frames map[string]string
	for how := range 8 {
		f.Add("", "text", uint64(0), byte(how))
		f.Add("\x01\x02\x01\x03\x01\x02\x00\x00", long(993), uint64(1), byte(how<<3))
		f.Add("\x00\x01\x01\x01\x02\x01\x03", "", uint64(42), byte(how<<5))
	}
	f.Fuzz(func(t *testing.T, s, text string, n uint64, how byte) {
		once.Do(func() { c, frames = busy(t) })
		fresh := key("fuzz", n)
		if how&8 != 0 {
			fresh = fresh[n%32:]
		}
		receive(t, c, s, fresh)
		names := slices.Sorted(maps.Keys(frames))
		g := got(t, frames[names[int(how>>4)%len(names)]])
		switch how & 7 {
		case 0:
			g.Body = text
		case 1:
			g.Signed = n
		case 2:
			g.Once = n
		case 3:
			g.N = n
		case 4:
			g.Prev = n
		case 5:
			g.From, g.To = n, uint64(len(text))
		case 6:
			g.Base = fmt.Sprintf("%-32.32s", text)
		}
		if bytes, why := frame.Put(g); why == api.OK {
			receive(t, c, bytes, fresh)
			receive(t, made(t, 2, 3), bytes+s, fresh)
		}
		shelf := shelfByTheWords(made(t, n%10, int(how>>5)))
		next, bytes, why := send(t, c, n%10, shelf, fresh, key("fuzz 2", n), text)
		if why == api.OK {
			receive(t, next, bytes, fresh)
		}
		tell(t, c, n%10, int(n)-3)
	})
}

func BenchmarkReceive(b *testing.B) {
	s := shelfByTheWords(made(b, 2, 1))
	_, bytes, _ := client.Send(made(b, 1, 0), 2, s, key("base"), key("fresh"), "text")
	c := made(b, 2, 1)
	for range b.N {
		client.Receive(c, bytes, key("g"))
	}
}

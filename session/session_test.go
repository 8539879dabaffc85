package session_test

import (
	"crypto/ecdh"
	"crypto/hkdf"
	"crypto/hmac"
	"crypto/sha256"
	"encoding/binary"
	"encoding/hex"
	"fmt"
	"maps"
	"math"
	"math/rand"
	"slices"
	"strings"
	"testing"

	"demurral/api"
	"demurral/frame"
	"demurral/session"
	"demurral/stream"
)

const (
	mostKept = 20
	mostUsed = 40
	mostText = 992
	limit    = 1 << 32
	top      = math.MaxUint64
)

// some are bytes without a rule, the same at every run.
func some(seed int64, many int) string {
	b := make([]byte, many)
	rand.New(rand.NewSource(seed)).Read(b)
	return string(b)
}

func all(s string) string { return strings.Repeat(s, 32) }

// rising are 32 bytes, each one more than that ahead.
func rising(first byte) string {
	var b []byte
	for i := range byte(32) {
		b = append(b, first+i)
	}
	return string(b)
}

// turned is the text with one bit of it turned.
func turned(s string, bit int) string {
	b := []byte(s)
	b[bit/8] ^= 1 << (bit % 8)
	return string(b)
}

func raw(t *testing.T, s string) string {
	t.Helper()
	b, err := hex.DecodeString(s)
	if err != nil {
		t.Fatal(err)
	}
	return string(b)
}

// key is one without a rule, told faster than by some: tests have a lot of them.
func key(i int) string {
	sum := sha256.Sum256(binary.BigEndian.AppendUint32([]byte("key"), uint32(i)))
	return string(sum[:])
}

// fresh are keys that no other thing of the tests has.
func fresh(i int) string { return key(1000000 + i) }

// table are so many kept keys, of one of three ratchets each, and numbers that no other one has.
func table(many int) []api.Kept {
	var out []api.Kept
	for i := range many {
		out = append(out, api.Kept{Ratchet: key(100 + i%3), N: 1000 + uint64(i), Key: key(200 + i)})
	}
	return out
}

func used(many int) []string {
	var out []string
	for i := range many {
		out = append(out, key(300+i))
	}
	return out
}

// full is a session that has all it can.
func full() api.Session {
	return api.Session{
		Own: key(1), Peer: key(2), Root: key(3), Send: key(4), Recv: key(5),
		Sent: 6, Got: 7, Prev: 8, Kept: table(mostKept), Used: used(mostUsed),
	}
}

func changed(s api.Session, change func(*api.Session)) api.Session {
	s.Kept, s.Used = slices.Clone(s.Kept), slices.Clone(s.Used)
	change(&s)
	return s
}

func hello() api.Frame {
	return api.Frame{Kind: api.FHello, From: 1, To: 2, Id: 3, Identity: key(50), Base: key(51), Signed: 4, Once: 5}
}

func text() api.Frame { return api.Frame{Kind: api.FText, From: 1, To: 2, Id: 6} }

func kinds() []api.Frame { return []api.Frame{hello(), text()} }

func changedFrame(f api.Frame, change func(*api.Frame)) api.Frame {
	f.Keys = slices.Clone(f.Keys)
	change(&f)
	return f
}

// wrongKeys are of the sizes that the document does not allow: those next to 32 among them, and one that has 32 in its lowest bits.
func wrongKeys() []string {
	var out []string
	for _, many := range []int{0, 1, 16, 31, 33, 64, 256 + 32} {
		out = append(out, strings.Repeat("\x00", many), some(90, many))
	}
	return out
}

// edges are numbers at which a session's come to their end, or to a byte more.
func edges() []uint64 {
	return []uint64{0, 1, 2, 9, 10, 11, 12, 255, 256, limit - 12, limit - 11, limit - 10, limit - 2, limit - 1, limit, limit + 1, limit + 9, limit + 10, top - 1, top}
}

// What follows, up to openedByTheWords, is the chapter's words, with the library's X25519, HKDF and HMAC. Where the library refuses a product, it is 0.
func mult(t *testing.T, key, point string) string {
	t.Helper()
	k, err := ecdh.X25519().NewPrivateKey([]byte(key))
	if err != nil {
		t.Fatal(err)
	}
	p, err := ecdh.X25519().NewPublicKey([]byte(point))
	if err != nil {
		t.Fatal(err)
	}
	out, err := k.ECDH(p)
	if err != nil {
		return all("\x00")
	}
	return string(out)
}

func pointOf(t *testing.T, key string) string {
	t.Helper()
	return mult(t, key, "\x09"+strings.Repeat("\x00", 31))
}

func split(t *testing.T, secret, word string, many int) string {
	t.Helper()
	b, err := hkdf.Expand(sha256.New, []byte(secret), word, 32*many)
	if err != nil {
		t.Fatal(err)
	}
	return string(b)
}

func rootStep(t *testing.T, root, shared string) (string, string) {
	t.Helper()
	b, err := hkdf.Extract(sha256.New, []byte(shared), []byte(root))
	if err != nil {
		t.Fatal(err)
	}
	s := split(t, string(b), "root", 2)
	return s[:32], s[32:]
}

func chainStep(t *testing.T, c string) (string, string) {
	t.Helper()
	s := split(t, c, "step", 2)
	return s[:32], s[32:]
}

func tagOf(key string, parts ...string) string {
	m := hmac.New(sha256.New, []byte(key))
	for _, s := range parts {
		m.Write([]byte(s))
	}
	return string(m.Sum(nil))
}

// tagKey is a message's key's one that tags.
func tagKey(t *testing.T, key string) string {
	t.Helper()
	return split(t, key, "lock", 3)[32:64]
}

func hidden(t *testing.T, key, s string) string {
	t.Helper()
	keys := split(t, key, "lock", 3)
	mask, why := stream.Stream(keys[:32], keys[64:76], len(s))
	if why != api.OK {
		t.Fatalf("a stream of %d bytes: error %d", len(s), why)
	}
	out := []byte(s)
	for i := range out {
		out[i] ^= mask[i]
	}
	return string(out)
}

func number(n uint64) string {
	b := strings.TrimLeft(string(binary.BigEndian.AppendUint64(nil, n)), "\x00")
	return string(rune(len(b))) + b
}

func headOf(f api.Frame) string {
	s := number(uint64(f.Kind)) + number(f.From) + number(f.To) + number(f.Id)
	if f.Kind == api.FHello {
		s += "\x01\x20" + f.Identity + "\x01\x20" + f.Base + number(f.Signed) + number(f.Once)
	}
	return s + "\x01\x20" + f.Ratchet + number(f.Prev) + number(f.N)
}

func tagOfFrame(t *testing.T, key string, f api.Frame, hidden string) string {
	t.Helper()
	head := headOf(f)
	return tagOf(tagKey(t, key), string(binary.BigEndian.AppendUint16(nil, uint16(len(head)))), head, hidden)
}

// lockedBy is the frame with the text, locked with a message's key.
func lockedBy(t *testing.T, key string, f api.Frame, text string) api.Frame {
	t.Helper()
	s := hidden(t, key, text)
	f.Body = s + tagOfFrame(t, key, f, s)
	return f
}

func keyOrNone(s string) bool { return s == "" || len(s) == 32 }

func rightByTheWords(s api.Session) bool {
	if len(s.Own) != 32 || len(s.Root) != 32 || !keyOrNone(s.Peer) || !keyOrNone(s.Send) || !keyOrNone(s.Recv) {
		return false
	}
	if s.Peer == "" && s.Send+s.Recv != "" || s.Peer != "" && s.Send+s.Recv == "" {
		return false
	}
	seen := map[string]int{}
	for _, k := range s.Kept {
		seen[fmt.Sprintf("%x %d", k.Ratchet, k.N)]++
		if len(k.Ratchet) != 32 || len(k.Key) != 32 {
			return false
		}
	}
	for _, u := range s.Used {
		if len(u) != 32 {
			return false
		}
	}
	return len(seen) == len(s.Kept) && len(seen) <= 20 && len(s.Used) <= 40 && max(s.Sent, s.Got, s.Prev) <= 4294967295
}

func startedByTheWords(t *testing.T, secret, peer, fresh string) api.Session {
	t.Helper()
	root, send := rootStep(t, secret, mult(t, fresh, peer))
	return api.Session{Own: fresh, Peer: peer, Root: root, Send: send}
}

func sealedByTheWords(t *testing.T, s api.Session, f api.Frame, text string) (api.Session, api.Frame, api.Errno) {
	t.Helper()
	bare := f
	bare.Ratchet, bare.Prev, bare.N, bare.Body = all("r"), 0, 0, ""
	switch {
	case !rightByTheWords(s) || f.Kind != 0 && f.Kind != 1 || !frame.Right(bare):
		return api.Session{}, api.Frame{}, api.ErrArg
	case len(text) > 992:
		return api.Session{}, api.Frame{}, api.ErrSize
	case s.Send == "":
		return api.Session{}, api.Frame{}, api.ErrState
	}
	bare.Ratchet, bare.Prev, bare.N = pointOf(t, s.Own), s.Prev, s.Sent
	next, key := chainStep(t, s.Send)
	s.Send = next
	s.Sent++
	return s, lockedBy(t, key, bare, text), api.OK
}

func place(l []api.Kept, ratchet string, n uint64) int {
	return slices.IndexFunc(l, func(k api.Kept) bool { return k.Ratchet == ratchet && k.N == n })
}

// filled is the session with keys kept up to a number that is not too far.
func filled(t *testing.T, s api.Session, to uint64) (api.Session, api.Errno) {
	t.Helper()
	for n := s.Got; n < to; n++ {
		if place(s.Kept, s.Peer, n) >= 0 {
			return api.Session{}, api.ErrOld
		}
	}
	l := slices.Clone(s.Kept)
	for n := s.Got; n < to; n++ {
		next, key := chainStep(t, s.Recv)
		l = append(l, api.Kept{Ratchet: s.Peer, N: n, Key: key})
		s.Recv = next
	}
	s.Kept = l[max(0, len(l)-20):]
	return s, api.OK
}

// keyByTheWords is the message's key of a frame, and the session behind the three steps.
func keyByTheWords(t *testing.T, s api.Session, f api.Frame, fresh string) (api.Session, string, api.Errno) {
	t.Helper()
	if i := place(s.Kept, f.Ratchet, f.N); i >= 0 {
		key := s.Kept[i].Key
		s.Kept = slices.Delete(slices.Clone(s.Kept), i, i+1)
		return s, key, api.OK
	}
	why := api.OK
	if f.Ratchet != s.Peer {
		if s.Recv != "" {
			if f.Prev < s.Got || f.Prev-s.Got > 10 {
				return s, "", api.ErrGap
			}
			if s, why = filled(t, s, f.Prev); why != api.OK {
				return s, "", why
			}
		}
		s.Peer = f.Ratchet
		s.Root, s.Recv = rootStep(t, s.Root, mult(t, s.Own, s.Peer))
		s.Prev = s.Sent
		s.Sent, s.Got = 0, 0
		s.Own = fresh
		s.Root, s.Send = rootStep(t, s.Root, mult(t, s.Own, s.Peer))
	}
	if s.Recv == "" || f.N < s.Got {
		return s, "", api.ErrOld
	}
	if f.N-s.Got > 10 || f.N >= 4294967295 {
		return s, "", api.ErrGap
	}
	if s, why = filled(t, s, f.N); why != api.OK {
		return s, "", why
	}
	next, key := chainStep(t, s.Recv)
	s.Recv, s.Got = next, f.N+1
	return s, key, api.OK
}

func openedByTheWords(t *testing.T, s api.Session, f api.Frame, fresh string) (api.Session, string, api.Errno) {
	t.Helper()
	if !rightByTheWords(s) || !frame.Right(f) || f.Kind == 2 {
		return api.Session{}, "", api.ErrArg
	}
	if len(fresh) != 32 || len(f.Body) < 32 {
		return api.Session{}, "", api.ErrSize
	}
	s, key, why := keyByTheWords(t, s, f, fresh)
	if why != api.OK {
		return api.Session{}, "", why
	}
	body, tag := f.Body[:len(f.Body)-32], f.Body[len(f.Body)-32:]
	if tag != tagOfFrame(t, key, f, body) {
		return api.Session{}, "", api.ErrAuth
	}
	l := append(slices.Clone(s.Used), tagKey(t, key))
	s.Used = l[max(0, len(l)-40):]
	return s, hidden(t, key, body), api.OK
}

// told is all of a session.
func told(s api.Session) string {
	out := fmt.Sprintf("own %x peer %x root %x send %x recv %x sent %d got %d prev %d, %d kept:", s.Own, s.Peer, s.Root, s.Send, s.Recv, s.Sent, s.Got, s.Prev, len(s.Kept))
	for _, k := range s.Kept {
		out += fmt.Sprintf(" (%x %d %x)", k.Ratchet, k.N, k.Key)
	}
	return out + fmt.Sprintf(", %d used: %x", len(s.Used), s.Used)
}

func toldFrame(f api.Frame) string {
	f.Keys = append([]string{}, f.Keys...) // no list counts as one of none
	return fmt.Sprintf("%#v", f)
}

func want(t *testing.T, what, got, wanted string) {
	t.Helper()
	if got != wanted {
		t.Errorf("%s: %.200x; wanted %.200x", what, got, wanted)
	}
}

func wantSession(t *testing.T, what string, got, wanted api.Session) {
	t.Helper()
	if told(got) != told(wanted) {
		t.Errorf("%s: %s\nwanted %s", what, told(got), told(wanted))
	}
}

// seal asks what the words say of a text, and that the session stays.
func seal(t *testing.T, s api.Session, f api.Frame, text string) (api.Session, api.Frame, api.Errno) {
	t.Helper()
	wanted, wantedFrame, wantedWhy := sealedByTheWords(t, s, f, text)
	before, beforeFrame := told(s), toldFrame(f)
	next, sealed, why := session.Seal(s, f, text)
	if why != wantedWhy {
		t.Errorf("Seal: error %d; wanted error %d", why, wantedWhy)
	}
	wantSession(t, "Seal", next, wanted)
	want(t, "the frame", toldFrame(sealed), toldFrame(wantedFrame))
	want(t, "the session that was handed in", told(s), before)
	want(t, "the frame that was handed in", toldFrame(f), beforeFrame)
	return next, sealed, why
}

// open asks what the words say of a frame, and that the session stays.
func open(t *testing.T, s api.Session, f api.Frame, fresh string) (api.Session, string, api.Errno) {
	t.Helper()
	wanted, wantedText, wantedWhy := openedByTheWords(t, s, f, fresh)
	before, beforeFrame := told(s), toldFrame(f)
	next, text, why := session.Open(s, f, fresh)
	if why != wantedWhy {
		t.Errorf("Open: error %d; wanted error %d", why, wantedWhy)
	}
	wantSession(t, "Open", next, wanted)
	want(t, "the text", text, wantedText)
	want(t, "the session that was handed in", told(s), before)
	want(t, "the frame that was handed in", toldFrame(f), beforeFrame)
	return next, text, why
}

func sealed(t *testing.T, s api.Session, f api.Frame, text string) (api.Session, api.Frame) {
	t.Helper()
	next, out, why := seal(t, s, f, text)
	if why != api.OK || len(out.Body) != len(text)+32 || !frame.Right(out) {
		t.Fatalf("a text of %d bytes: %d bytes, error %d", len(text), len(out.Body), why)
	}
	return next, out
}

func opened(t *testing.T, s api.Session, f api.Frame, fresh, wanted string) api.Session {
	t.Helper()
	next, text, why := open(t, s, f, fresh)
	if why != api.OK || text != wanted || !session.Right(next) {
		t.Fatalf("frame %d of %x, opened: %.100q, error %d; wanted %.100q", f.N, f.Ratchet, text, why, wanted)
	}
	return next
}

func wantNoSeal(t *testing.T, what string, s api.Session, f api.Frame, text string, wanted api.Errno) {
	t.Helper()
	next, out, why := seal(t, s, f, text)
	if why != wanted || told(next) != told(api.Session{}) || toldFrame(out) != toldFrame(api.Frame{}) {
		t.Errorf("Seal, %s: error %d; wanted error %d", what, why, wanted)
	}
}

func wantNoOpen(t *testing.T, what string, s api.Session, f api.Frame, fresh string, wanted api.Errno) {
	t.Helper()
	next, text, why := open(t, s, f, fresh)
	if why != wanted || told(next) != told(api.Session{}) || text != "" {
		t.Errorf("Open, %s: %.100q, error %d; wanted error %d", what, text, why, wanted)
	}
}

// two are the sessions of who begins, and of who is asked, ahead of any frame.
func two(t *testing.T) (api.Session, api.Session) {
	t.Helper()
	a, why := session.Start(key(10), pointOf(t, key(11)), key(12))
	b, whyAsked := session.Accept(key(10), key(11))
	if why != api.OK || whyAsked != api.OK {
		t.Fatalf("errors %d, %d", why, whyAsked)
	}
	return a, b
}

// many are so many texts of a session, sealed one behind the other.
func many(t *testing.T, s api.Session, many int, word string) (api.Session, []api.Frame) {
	t.Helper()
	var out []api.Frame
	for i := range many {
		next, f := sealed(t, s, text(), word+fmt.Sprint(i))
		s, out = next, append(out, f)
	}
	return s, out
}

// talking are two of whom each opened a text of the other one.
func talking(t *testing.T) (api.Session, api.Session) {
	t.Helper()
	a, b := two(t)
	a, f := sealed(t, a, hello(), "first")
	b = opened(t, b, f, fresh(1), "first")
	b, f = sealed(t, b, text(), "back")
	return opened(t, a, f, fresh(2), "back"), b
}

// at are two whose chains have come to that number: what the first one seals has it, and the second one waits for it.
func at(t *testing.T, n uint64) (api.Session, api.Session) {
	t.Helper()
	a := api.Session{Own: key(20), Peer: pointOf(t, key(21)), Root: key(22), Send: key(23), Recv: key(24), Sent: n, Prev: 3}
	b := api.Session{Own: key(21), Peer: pointOf(t, key(20)), Root: key(22), Send: key(24), Recv: key(23), Got: n, Prev: 4}
	return a, b
}

// crafted is a frame that a session takes, of any Ratchet, Prev and N: the message's key is told by the words.
func crafted(t *testing.T, s api.Session, f api.Frame, ratchet string, prev, n uint64, text string) api.Frame {
	t.Helper()
	f.Ratchet, f.Prev, f.N = ratchet, prev, n
	_, key, why := keyByTheWords(t, s, f, fresh(0))
	if why != api.OK {
		key = all("k")
	}
	return lockedBy(t, key, f, text)
}

// P13.1: ordinary ones, and those with all they can; of each number of kept and used keys that may be.
func TestRightSessions(t *testing.T) {
	a, b := two(t)
	c, d := talking(t)
	for name, s := range map[string]api.Session{
		"of who begins":              a,
		"of who is asked":            b,
		"of who has an answer":       c,
		"of who has answered":        d,
		"full":                       full(),
		"bytes 0":                    {Own: all("\x00"), Root: all("\x00")},
		"lists that are empty":       {Own: key(1), Root: key(2), Kept: []api.Kept{}, Used: []string{}},
		"Recv alone":                 changed(full(), func(s *api.Session) { s.Send = "" }),
		"Send alone":                 changed(full(), func(s *api.Session) { s.Recv = "" }),
		"no Peer, but kept and used": changed(full(), func(s *api.Session) { s.Peer, s.Send, s.Recv = "", "", "" }),
		"one key for all":            {Own: key(1), Peer: key(1), Root: key(1), Send: key(1), Recv: key(1), Used: slices.Repeat([]string{key(1)}, mostUsed)},
		"Sent at its end":            changed(full(), func(s *api.Session) { s.Sent = limit - 1 }),
		"Got at its end":             changed(full(), func(s *api.Session) { s.Got = limit - 1 }),
		"Prev at its end":            changed(full(), func(s *api.Session) { s.Prev = limit - 1 }),
		"kept numbers at their end":  changed(full(), func(s *api.Session) { s.Kept[0].N, s.Kept[1].N = top, limit }),
	} {
		if !session.Right(s) || !rightByTheWords(s) {
			t.Errorf("%s: not right", name)
		}
	}
	for i := range mostKept + 1 {
		for j := range mostUsed + 1 {
			if !session.Right(changed(full(), func(s *api.Session) { s.Kept, s.Used = table(i), used(j) })) {
				t.Errorf("%d kept, %d used: not right", i, j)
			}
		}
	}
}

// keysOf are the places of a session's keys.
func keysOf(s *api.Session) []*string {
	return []*string{&s.Own, &s.Root, &s.Peer, &s.Send, &s.Recv}
}

func numbersOf(s *api.Session) []*uint64 { return []*uint64{&s.Sent, &s.Got, &s.Prev} }

// wrongSessions are such that may not be, each for one reason.
func wrongSessions() map[string]api.Session {
	out := map[string]api.Session{
		"of nothing":              {},
		"a Peer alone":            changed(full(), func(s *api.Session) { s.Send, s.Recv = "", "" }),
		"no Peer":                 changed(full(), func(s *api.Session) { s.Peer = "" }),
		"Send without Peer":       changed(full(), func(s *api.Session) { s.Peer, s.Recv = "", "" }),
		"Recv without Peer":       changed(full(), func(s *api.Session) { s.Peer, s.Send = "", "" }),
		"21 kept":                 changed(full(), func(s *api.Session) { s.Kept = table(mostKept + 1) }),
		"the same kept twice":     changed(full(), func(s *api.Session) { s.Kept[19].Ratchet, s.Kept[19].N = s.Kept[0].Ratchet, s.Kept[0].N }),
		"a kept key of 31 bytes":  changed(full(), func(s *api.Session) { s.Kept[3].Key = some(1, 31) }),
		"a kept key of none":      changed(full(), func(s *api.Session) { s.Kept[0] = api.Kept{} }),
		"a ratchet of 33 bytes":   changed(full(), func(s *api.Session) { s.Kept[19].Ratchet += "\x00" }),
		"41 used":                 changed(full(), func(s *api.Session) { s.Used = used(mostUsed + 1) }),
		"80 used":                 changed(full(), func(s *api.Session) { s.Used = used(2 * mostUsed) }),
		"296 used":                changed(full(), func(s *api.Session) { s.Used = used(256 + mostUsed) }),
		"a used one of 31 bytes":  changed(full(), func(s *api.Session) { s.Used[0] = some(1, 31) }),
		"a used one of 33 bytes":  changed(full(), func(s *api.Session) { s.Used[39] = some(1, 33) }),
		"a used one of no bytes":  changed(full(), func(s *api.Session) { s.Used[20] = "" }),
		"a used one of 288 bytes": changed(full(), func(s *api.Session) { s.Used[7] = some(1, 288) }),
	}
	for i, name := range []string{"Own", "Root", "Peer", "Send", "Recv"} {
		for _, wrong := range wrongKeys() {
			if wrong == "" && i > 2 {
				continue // the other chain is there
			}
			out[fmt.Sprintf("%s of %x", name, wrong)] = changed(full(), func(s *api.Session) { *keysOf(s)[i] = wrong })
		}
	}
	for i, name := range []string{"Sent", "Got", "Prev"} {
		for _, n := range []uint64{limit, limit + 1, 2 * limit, 1 << 63, top} {
			out[fmt.Sprintf("%s %d", name, n)] = changed(full(), func(s *api.Session) { *numbersOf(s)[i] = n })
		}
	}
	return out
}

// P13.1, P13.2, P13.3: a session that may not be is ErrArg, ahead of all other errors; that another thing is wrong with it too doesn't matter.
func TestWrongSessions(t *testing.T) {
	short := changedFrame(text(), func(f *api.Frame) { f.Ratchet, f.Body = key(2), some(1, 31) })
	whole := changedFrame(short, func(f *api.Frame) { f.Body = some(1, 40) })
	for name, s := range wrongSessions() {
		if session.Right(s) || rightByTheWords(s) {
			t.Errorf("%s: right", name)
		}
		wantNoSeal(t, name, s, text(), "x", api.ErrArg)
		wantNoSeal(t, name+", a long text", s, hello(), some(1, 993), api.ErrArg)
		wantNoOpen(t, name, s, whole, fresh(1), api.ErrArg)
		wantNoOpen(t, name+", a short body, a short key", s, short, "", api.ErrArg)
	}
}

// P13.1: sizes of keys, in every way of being there or not.
func TestRightByTheWords(t *testing.T) {
	sizes := []int{0, 1, 31, 32, 33}
	for i := range 5 * 5 * 5 {
		s := changed(full(), func(s *api.Session) {
			s.Peer, s.Send, s.Recv = some(1, sizes[i%5]), some(2, sizes[i/5%5]), some(3, sizes[i/25])
		})
		if session.Right(s) != rightByTheWords(s) {
			t.Errorf("%s: right is %v", told(s), session.Right(s))
		}
	}
	for _, n := range edges() {
		for i := range 3 {
			s := changed(full(), func(s *api.Session) { *numbersOf(s)[i] = n })
			if session.Right(s) != (n < limit) {
				t.Errorf("%s: right is %v", told(s), session.Right(s))
			}
		}
	}
}

// others are sessions that differ from the full one in one thing each.
func others() map[string]api.Session {
	out := map[string]api.Session{
		"one kept less":          changed(full(), func(s *api.Session) { s.Kept = s.Kept[:19] }),
		"the first kept gone":    changed(full(), func(s *api.Session) { s.Kept = s.Kept[1:] }),
		"none kept":              changed(full(), func(s *api.Session) { s.Kept = nil }),
		"one kept more":          changed(full(), func(s *api.Session) { s.Kept = table(21) }),
		"two kept ones' order":   changed(full(), func(s *api.Session) { s.Kept[4], s.Kept[5] = s.Kept[5], s.Kept[4] }),
		"one used less":          changed(full(), func(s *api.Session) { s.Used = s.Used[:39] }),
		"the first used gone":    changed(full(), func(s *api.Session) { s.Used = s.Used[1:] }),
		"none used":              changed(full(), func(s *api.Session) { s.Used = nil }),
		"one used more":          changed(full(), func(s *api.Session) { s.Used = used(41) }),
		"two used ones' order":   changed(full(), func(s *api.Session) { s.Used[38], s.Used[39] = s.Used[39], s.Used[38] }),
		"Send and Recv":          changed(full(), func(s *api.Session) { s.Send, s.Recv = s.Recv, s.Send }),
		"Own and Peer":           changed(full(), func(s *api.Session) { s.Own, s.Peer = s.Peer, s.Own }),
		"Sent and Got":           changed(full(), func(s *api.Session) { s.Sent, s.Got = s.Got, s.Sent }),
		"Got and Prev":           changed(full(), func(s *api.Session) { s.Got, s.Prev = s.Prev, s.Got }),
		"a byte goes to another": changed(full(), func(s *api.Session) { s.Used[1], s.Used[2] = s.Used[1]+s.Used[2][:1], s.Used[2][1:] }),
	}
	for i, name := range []string{"Own", "Root", "Peer", "Send", "Recv"} {
		for _, bit := range []int{0, 7, 128, 248, 255} {
			out[fmt.Sprintf("bit %d of %s", bit, name)] = changed(full(), func(s *api.Session) { *keysOf(s)[i] = turned(*keysOf(s)[i], bit) })
		}
		out["no "+name] = changed(full(), func(s *api.Session) { *keysOf(s)[i] = "" })
		out["a byte more of "+name] = changed(full(), func(s *api.Session) { *keysOf(s)[i] += "\x00" })
	}
	for i, name := range []string{"Sent", "Got", "Prev"} {
		for _, bit := range []int{0, 1, 8, 31, 32, 63} {
			out[fmt.Sprintf("bit %d of %s", bit, name)] = changed(full(), func(s *api.Session) { *numbersOf(s)[i] ^= 1 << bit })
		}
	}
	for i := range mostKept {
		out[fmt.Sprintf("kept ratchet %d", i)] = changed(full(), func(s *api.Session) { s.Kept[i].Ratchet = turned(s.Kept[i].Ratchet, 200) })
		out[fmt.Sprintf("kept number %d", i)] = changed(full(), func(s *api.Session) { s.Kept[i].N ^= 1 << 40 })
		out[fmt.Sprintf("kept key %d", i)] = changed(full(), func(s *api.Session) { s.Kept[i].Key = turned(s.Kept[i].Key, 0) })
	}
	for i := range mostUsed {
		out[fmt.Sprintf("used %d", i)] = changed(full(), func(s *api.Session) { s.Used[i] = turned(s.Used[i], 255) })
	}
	return out
}

func wantLike(t *testing.T, what string, a, b api.Session, wanted bool) {
	t.Helper()
	if session.Like(a, b) != wanted || session.Like(b, a) != wanted {
		t.Errorf("%s: like is %v, the other way round %v; wanted %v", what, session.Like(a, b), session.Like(b, a), wanted)
	}
}

// P13.1
func TestLike(t *testing.T) {
	wantLike(t, "the same, made twice", full(), full(), true)
	for name, s := range others() {
		wantLike(t, name, s, full(), false)
		wantLike(t, name+", and itself", s, changed(s, func(*api.Session) {}), true)
	}
	for name, s := range wrongSessions() {
		wantLike(t, name+", and itself", s, changed(s, func(*api.Session) {}), true)
		wantLike(t, name, s, full(), false)
	}
	empty := changed(full(), func(s *api.Session) { s.Kept, s.Used = []api.Kept{}, []string{} })
	wantLike(t, "nil lists and empty ones", empty, changed(full(), func(s *api.Session) { s.Kept, s.Used = nil, nil }), true)
	wantLike(t, "nothing", api.Session{}, api.Session{}, true)
	wantLike(t, "two who write", firstOf(two(t)), secondOf(two(t)), false)
}

func firstOf(a, _ api.Session) api.Session { return a }

func secondOf(_, b api.Session) api.Session { return b }

// P13.1
func TestStart(t *testing.T) {
	for i := range 20 {
		secret, peer, own := key(3*i), key(3*i+1), key(3*i+2)
		switch i {
		case 0:
			secret, peer, own = all("\x00"), all("\x00"), all("\x00") // the product is 0
		case 1:
			secret, peer, own = all("\xff"), all("\xff"), all("\xff")
		case 2:
			peer = "\x01" + all("\x00")[1:]
		}
		s, why := session.Start(secret, peer, own)
		if why != api.OK || !session.Right(s) {
			t.Errorf("%x, %x, %x: error %d", secret, peer, own, why)
		}
		wantSession(t, "Start", s, startedByTheWords(t, secret, peer, own))
	}
}

// P13.1
func TestAccept(t *testing.T) {
	for i := range 20 {
		secret, own := key(2*i), key(2*i+1)
		if i == 0 {
			secret, own = all("\x00"), all("\xff")
		}
		s, why := session.Accept(secret, own)
		if why != api.OK || !session.Right(s) {
			t.Errorf("%x, %x: error %d", secret, own, why)
		}
		wantSession(t, "Accept", s, api.Session{Own: own, Root: secret})
	}
}

// P13.1: each argument alone, and all together.
func TestWrongSizesOfNewSessions(t *testing.T) {
	for _, wrong := range wrongKeys() {
		for i := 1; i < 8; i++ {
			l := []string{key(1), key(2), key(3)}
			for j := range l {
				if i>>j&1 == 1 {
					l[j] = wrong
				}
			}
			s, why := session.Start(l[0], l[1], l[2])
			if why != api.ErrSize || told(s) != told(api.Session{}) {
				t.Errorf("Start of %d, %d and %d bytes: %s, error %d", len(l[0]), len(l[1]), len(l[2]), told(s), why)
			}
			if i > 3 {
				continue
			}
			s, why = session.Accept(l[0], l[1])
			if why != api.ErrSize || told(s) != told(api.Session{}) {
				t.Errorf("Accept of %d and %d bytes: %s, error %d", len(l[0]), len(l[1]), told(s), why)
			}
		}
	}
}

// P13.1, P13.2, P13.3: a conversation that Python told, with its own X25519, HMAC and ChaCha20.
func TestConversation(t *testing.T) {
	r := func(s string) string { return raw(t, s) }
	point := r("358072d6365880d1aeea329adf9121383851ed21a28e3b75e965d0d2cd166254")
	ratchet := r("79a631eede1bf9c98f12032cdeadd0e7a079398fc786b88cc846ec89af85a51a")
	a, why := session.Start(rising(0), point, rising(64))
	b, whyAsked := session.Accept(rising(0), rising(32))
	if why != api.OK || whyAsked != api.OK {
		t.Fatal(why, whyAsked)
	}
	wantSession(t, "who begins", a, api.Session{
		Own: rising(64), Peer: point,
		Root: r("d731113ab315161c3176b912ea82c017496889f173e7c0182fb46366ba8b1b3f"),
		Send: r("4103b8d16155e8b5347cee64b538cde3050ffc7baf83825353e40cab1dba7e4b"),
	})
	first := hello()
	first.Identity, first.Base = all("p"), all("q")
	a, f1 := sealed(t, a, first, "one")
	want(t, "Ratchet", f1.Ratchet, ratchet)
	want(t, "one", f1.Body, r("b3dc9004e031101939e2ab25bb4bd8843fc4ac31a647bd3415a9b2e3fba00a657d4e95"))
	a, f2 := sealed(t, a, api.Frame{Kind: api.FText, From: 1, To: 2, Id: 4}, "two")
	want(t, "two", f2.Body, r("53b7bcacfb59551d2b80a32aaf6007b31d8f4055f8d183fbdcf45ac3f627a97da7c292"))
	b = opened(t, b, f2, rising(96), "two")
	wantSession(t, "behind two", b, api.Session{
		Own: rising(96), Peer: ratchet,
		Root: r("7d369d59962d33d71352c40d688020d4d2e91da615749217172efe33c04c3a47"),
		Send: r("3176c246045b6002b32d1644e3dff994388c75d33c846a3a92105bff303e3e13"),
		Recv: r("7eb5290aa8cee16ac2de34db541d8e07d494b919b1fa6f6f35cc62eae751afbb"),
		Got:  2,
		Kept: []api.Kept{{Ratchet: ratchet, Key: r("0e8ff03a8f655af801b8f096f1c0ab4e27affec48c863cad64b35717f9207eb7")}},
		Used: []string{r("2e576d8c41d48beecfb167977289af3499548811c7cf44162eb5b1a5a3027780")},
	})
	b, f3 := sealed(t, b, api.Frame{Kind: api.FText, From: 2, To: 1, Id: 1}, "")
	want(t, "no text", f3.Body, r("9814eca8035041064d48b4eb9fe31b2779044cb7cc13f7b2da0c953b16b2eb77"))
	a = opened(t, a, f3, rising(128), "")
	wantSession(t, "behind no text", a, api.Session{
		Own: rising(128), Peer: r("675dd574ed7789310b3d2e7681f3790b466c773b1521fecf36577958371ea52f"),
		Root: r("e3c05c0266a61a8a3c6b5d687fa3b2d914e2046c8b69e4fecc2edfcc456f71c9"),
		Send: r("4ef0a32ec4ad7502b66f52cd93e21bff2281b512a1b2cf3b0490b1093194255f"),
		Recv: r("d925feaf75045ccc3d43d1df9b33b9aab3341b08b91144ae7e165d61982734d5"),
		Got:  1, Prev: 2,
		Used: []string{r("18b0111976065d659c0fe39729ed5690cc6b1b0ca98716a596c0f2370adb79d2")},
	})
	_, f4 := sealed(t, a, api.Frame{Kind: api.FText, From: 1, To: 2, Id: 258}, strings.Repeat("x", mostText))
	want(t, "a long text's end", f4.Body[984:], r("4cd942c1c7786a3b787bb1a72103afec533c6a3503ba95d73871e30607ba680b5dca03a9603dd1ec"))
	b = opened(t, b, f4, rising(160), strings.Repeat("x", mostText))
	b = opened(t, b, f1, rising(192), "one")
	wantSession(t, "behind all", b, api.Session{
		Own: rising(160), Peer: r("493e82fc74464a59268817623d2053c5eb8e2cc4a988b4fee179ec6b010d531d"),
		Root: r("7a388f220799e94bf7cf4b2c6096fbc3c907ec586e4f3387990e64068677d765"),
		Send: r("d5bea1b95184455665fa1031910bbed5e21d0afa553b305fd90616b9ab65b6f1"),
		Recv: r("0a3cd1df9079122e54036e711a19a2094b24c11599c0ba1c4a6cd09d58030d87"),
		Got:  1, Prev: 1,
		Used: []string{
			r("2e576d8c41d48beecfb167977289af3499548811c7cf44162eb5b1a5a3027780"),
			r("63473ba28673a66431537ef5afe52345d21b494c17826bb2dd85061c27a0b3de"),
			r("f3c93b72fd1d511e2a959c2a36d4289680cdafd9c8736fc96f98315775b018e5"),
		},
	})
}

// P13.2: the chapter's, and others who have nothing to seal with.
func TestNoSend(t *testing.T) {
	_, b := two(t)
	for name, s := range map[string]api.Session{
		"who is asked": b,
		"no Send":      changed(full(), func(s *api.Session) { s.Send = "" }),
		"no Peer":      changed(full(), func(s *api.Session) { s.Peer, s.Send, s.Recv = "", "", "" }),
	} {
		for _, f := range kinds() {
			for _, many := range []int{0, 1, mostText} {
				wantNoSeal(t, name, s, f, some(1, many), api.ErrState)
			}
			wantNoSeal(t, name+", a long text", s, f, some(1, mostText+1), api.ErrSize)
		}
		wantNoSeal(t, name+", a wrong frame", s, api.Frame{}, "", api.ErrArg)
	}
}

// P13.2: texts of all sizes at the edges, by frames of both kinds and sessions at all numbers that may be.
func TestSealSizes(t *testing.T) {
	a, _ := two(t)
	for _, f := range kinds() {
		for _, many := range []int{0, 1, 2, 31, 32, 33, 63, 64, 65, 255, 256, 991, mostText} {
			for _, s := range []string{some(int64(many), many), strings.Repeat("\x00", many)} {
				sealed(t, a, f, s)
				sealed(t, full(), f, s)
			}
		}
		for _, many := range []int{mostText + 1, mostText + 2, 1023, 1024, 1025, 1 << 16, 1<<16 + 100} {
			wantNoSeal(t, fmt.Sprint(many, " bytes"), a, f, strings.Repeat("x", many), api.ErrSize)
		}
	}
}

// P13.2: what a frame has as its Ratchet, Prev, N and Body isn't asked.
func TestSealAsksNoOtherFields(t *testing.T) {
	a, _ := talking(t)
	for _, f := range kinds() {
		next, wanted := sealed(t, a, f, "text")
		for _, ratchet := range []string{"", "r", some(1, 31), all("r"), some(2, 33), some(3, 2000)} {
			for _, body := range []string{"", "body", some(4, 1024), some(5, 1025)} {
				for _, n := range []uint64{0, 1, limit, top} {
					g := f
					g.Ratchet, g.Body, g.Prev, g.N = ratchet, body, n, top-n
					s, got := sealed(t, a, g, "text")
					wantSession(t, "Seal", s, next)
					want(t, "the frame", toldFrame(got), toldFrame(wanted))
				}
			}
		}
	}
}

// wrongFrames are such that may not be sealed, each for one reason; with the Ratchet and a Body of their own some may be.
func wrongFrames() map[string]api.Frame {
	out := map[string]api.Frame{
		"of nothing":                {},
		"FReveal":                   {Kind: api.FReveal},
		"FReveal with keys":         {Kind: api.FReveal, From: 1, To: 2, Id: 3, Keys: used(3)},
		"FReveal with a Ratchet":    {Kind: api.FReveal, Ratchet: key(1)},
		"FReveal as a first text":   changedFrame(hello(), func(f *api.Frame) { f.Kind = api.FReveal }),
		"a text as a first one":     changedFrame(text(), func(f *api.Frame) { f.Kind = api.FHello }),
		"a first text as another":   changedFrame(hello(), func(f *api.Frame) { f.Kind = api.FText }),
		"a text with an Identity":   changedFrame(text(), func(f *api.Frame) { f.Identity = key(1) }),
		"a text with a Base":        changedFrame(text(), func(f *api.Frame) { f.Base = key(1) }),
		"a text with Signed":        changedFrame(text(), func(f *api.Frame) { f.Signed = 1 }),
		"a text with Once":          changedFrame(text(), func(f *api.Frame) { f.Once = top }),
		"a text with a key":         changedFrame(text(), func(f *api.Frame) { f.Keys = used(1) }),
		"a first text with a key":   changedFrame(hello(), func(f *api.Frame) { f.Keys = used(1) }),
		"a first text with 32 keys": changedFrame(hello(), func(f *api.Frame) { f.Keys = used(32) }),
		"a text with a key of none": changedFrame(text(), func(f *api.Frame) { f.Keys = []string{""} }),
	}
	for _, kind := range []int{-1, 3, 4, 256, 257, math.MinInt, math.MaxInt} {
		out[fmt.Sprint("a text of kind ", kind)] = changedFrame(text(), func(f *api.Frame) { f.Kind = kind })
		out[fmt.Sprint("a first text of kind ", kind)] = changedFrame(hello(), func(f *api.Frame) { f.Kind = kind })
	}
	for _, wrong := range wrongKeys() {
		out[fmt.Sprintf("Identity %x", wrong)] = changedFrame(hello(), func(f *api.Frame) { f.Identity = wrong })
		out[fmt.Sprintf("Base %x", wrong)] = changedFrame(hello(), func(f *api.Frame) { f.Base = wrong })
		if wrong != "" {
			out[fmt.Sprintf("a text with %x", wrong)] = changedFrame(text(), func(f *api.Frame) { f.Identity = wrong })
		}
	}
	return out
}

// P13.2: a frame that may not be is ErrArg, ahead of a text that is too long, and of no Send.
func TestSealWrongFrames(t *testing.T) {
	a, b := two(t)
	for name, f := range wrongFrames() {
		for _, g := range []api.Frame{f, changedFrame(f, func(f *api.Frame) { f.Ratchet, f.Body = key(1), some(1, 40) })} {
			wantNoSeal(t, name, a, g, "text", api.ErrArg)
			wantNoSeal(t, name+", too long", a, g, some(1, 993), api.ErrArg)
			wantNoSeal(t, name+", no Send", b, g, "text", api.ErrArg)
			wantNoSeal(t, name+", too long, no Send", b, g, some(1, 993), api.ErrArg)
		}
	}
}

// P13.2: N is Sent, Prev the session's, wherever these are; at its end Sent is more than a session may have.
func TestSealNumbers(t *testing.T) {
	for _, n := range edges() {
		for _, f := range kinds() {
			s := changed(full(), func(s *api.Session) { s.Sent = n })
			u := changed(full(), func(s *api.Session) { s.Prev = n })
			if n >= limit {
				wantNoSeal(t, "Sent", s, f, "x", api.ErrArg)
				wantNoSeal(t, "Prev", u, f, "x", api.ErrArg)
				continue
			}
			next, g := sealed(t, s, f, "x")
			if g.N != n || next.Sent != n+1 || session.Right(next) != (n < limit-1) {
				t.Errorf("Sent %d: N %d, Sent %d then, right is %v", n, g.N, next.Sent, session.Right(next))
			}
			if n == limit-1 {
				wantNoSeal(t, "behind the end", next, f, "x", api.ErrArg)
			}
			if _, g = sealed(t, u, f, "x"); g.Prev != n {
				t.Errorf("Prev %d: %d", n, g.Prev)
			}
		}
	}
}

// P13.2, P13.3: what is tagged is the whole head: its numbers too.
func TestSealTagsTheHead(t *testing.T) {
	a, _ := two(t)
	for _, f := range kinds() {
		_, first := sealed(t, a, f, "text")
		for i := range 3 {
			g := f
			*[]*uint64{&g.From, &g.To, &g.Id}[i] ^= 1 << 20
			if _, other := sealed(t, a, g, "text"); other.Body[:4] != first.Body[:4] || other.Body[4:] == first.Body[4:] {
				t.Errorf("number %d: %x and %x", i, first.Body, other.Body)
			}
		}
	}
}

// P13.3, P13.4: in order, in both directions, of texts of all sizes; each turn of the ratchet begins at 0 anew.
func TestInOrder(t *testing.T) {
	a, b := two(t)
	for turn := range 4 {
		for i, size := range []int{0, 1, 32, 500, mostText} {
			f := text()
			if turn == 0 {
				f = hello()
			}
			wanted := some(int64(10*turn+i), size)
			next, g := sealed(t, a, f, wanted)
			a = next
			if g.N != uint64(i) || g.Prev != a.Prev {
				t.Errorf("turn %d, text %d: N %d, Prev %d", turn, i, g.N, g.Prev)
			}
			b = opened(t, b, g, fresh(100*turn+i), wanted)
			if b.Got != uint64(i)+1 || b.Sent != 0 || len(b.Kept) != 0 || b.Own != fresh(100*turn) {
				t.Errorf("turn %d, text %d: %s", turn, i, told(b))
			}
		}
		a, b = b, a
	}
	if len(a.Used) != 10 || len(b.Used) != 10 {
		t.Errorf("used %d and %d", len(a.Used), len(b.Used))
	}
}

// P13.4: the last one first, and then each other one, from the last to the first, and in another order.
func TestLastFirst(t *testing.T) {
	a, b := two(t)
	_, l := many(t, a, 11, "text")
	b = opened(t, b, l[10], fresh(1), "text10")
	if len(b.Kept) != 10 || b.Got != 11 || len(b.Used) != 1 {
		t.Fatal(told(b))
	}
	down, mixed := b, b
	for i := range 10 {
		down = opened(t, down, l[9-i], fresh(2), fmt.Sprint("text", 9-i))
		mixed = opened(t, mixed, l[i*7%10], fresh(2), fmt.Sprint("text", i*7%10))
	}
	for _, s := range []api.Session{down, mixed} {
		if len(s.Kept) != 0 || len(s.Used) != 11 || s.Got != 11 || s.Own != fresh(1) {
			t.Error(told(s))
		}
		for _, f := range l {
			wantNoOpen(t, "again", s, f, fresh(3), api.ErrOld)
		}
	}
}

// P13.3: a gap of 10 is taken, one of 11 not, at the first frame and at later ones.
func TestGaps(t *testing.T) {
	a, b := two(t)
	_, l := many(t, a, 24, "text")
	wantNoOpen(t, "a gap of 11", b, l[11], fresh(1), api.ErrGap)
	wantNoOpen(t, "a gap of 23", b, l[23], fresh(1), api.ErrGap)
	ten := opened(t, b, l[10], fresh(1), "text10")
	wantNoOpen(t, "a gap of 11 behind one of 10", ten, l[22], fresh(2), api.ErrGap)
	twice := opened(t, ten, l[21], fresh(2), "text21")
	if len(ten.Kept) != 10 || len(twice.Kept) != 20 {
		t.Errorf("kept %d, and then %d", len(ten.Kept), len(twice.Kept))
	}
	b = opened(t, b, l[0], fresh(1), "text0")
	wantNoOpen(t, "a gap of 11 from 1", b, l[12], fresh(2), api.ErrGap)
	b = opened(t, b, l[11], fresh(2), "text11")
	b = opened(t, b, l[12], fresh(2), "text12")
	wantNoOpen(t, "twelve left out", b, l[23], "", api.ErrSize)
	b = opened(t, b, l[23], fresh(2), "text23")
	for i := 1; i < 23; i++ {
		if i == 11 || i == 12 {
			continue
		}
		b = opened(t, b, l[i], fresh(3), fmt.Sprint("text", i))
	}
	if len(b.Kept) != 0 || len(b.Used) != 24 {
		t.Error(told(b))
	}
}

// P13.3: as many as are left out ahead of a turn are 10 at most too, by the Prev of the first frame behind it; of a turn's first chain nothing was left out.
func TestGapsAheadOfATurn(t *testing.T) {
	for _, left := range []int{0, 1, 9, 10, 11, 12} {
		a, b := talking(t)
		a, l := many(t, a, 1+left, "one")
		b = opened(t, b, l[0], fresh(3), "one0")
		b, back := sealed(t, b, text(), "back")
		a = opened(t, a, back, fresh(4), "back")
		_, m := many(t, a, 3, "two")
		if left > 10 {
			wantNoOpen(t, "more than 10 ahead of the turn", b, m[0], fresh(5), api.ErrGap)
			b = opened(t, b, l[11], fresh(5), "one11")
			b = opened(t, b, m[0], fresh(5), "two0")
			continue
		}
		b = opened(t, b, m[2], fresh(5), "two2")
		if len(b.Kept) != left+2 || b.Got != 3 || b.Peer != m[0].Ratchet || b.Own != fresh(5) {
			t.Fatal(told(b))
		}
		for i := range left {
			b = opened(t, b, l[1+i], fresh(6), fmt.Sprint("one", 1+i))
		}
		b = opened(t, b, m[1], fresh(6), "two1")
		b = opened(t, b, m[0], fresh(6), "two0")
		if len(b.Kept) != 0 || b.Own != fresh(5) {
			t.Error(told(b))
		}
	}
}

// P13.4: frames of several turns come late, each behind the last one of all.
func TestSeveralTurns(t *testing.T) {
	a, b := talking(t)
	late := map[string]api.Frame{}
	for turn := range 4 {
		next, l := many(t, a, 4, fmt.Sprint("turn", turn, " "))
		a = next
		b = opened(t, b, l[1], fresh(10*turn), fmt.Sprint("turn", turn, " 1"))
		for i, f := range l {
			if i != 1 {
				late[fmt.Sprint("turn", turn, " ", i)] = f
			}
		}
		next, f := sealed(t, b, text(), "back")
		b = next
		a = opened(t, a, f, fresh(10*turn+1), "back")
	}
	a, f := sealed(t, a, text(), "at last")
	b = opened(t, b, f, fresh(50), "at last")
	if len(b.Kept) != len(late) {
		t.Fatal(told(b))
	}
	for wanted, f := range late {
		b = opened(t, b, f, fresh(51), wanted)
	}
	if len(b.Kept) != 0 || b.Peer != pointOf(t, a.Own) {
		t.Error(told(b))
	}
}

// P13.4: both seal ahead of opening what the other one sealed, several times.
func TestBothAtOnce(t *testing.T) {
	a, b := talking(t)
	for i := range 4 {
		nextA, f := many(t, a, 3, "a")
		nextB, g := many(t, b, 3, "b")
		for j := range 3 {
			nextA = opened(t, nextA, g[2-j], fresh(100+10*i+j), fmt.Sprint("b", 2-j))
			nextB = opened(t, nextB, f[j], fresh(200+10*i+j), fmt.Sprint("a", j))
		}
		a, b = nextA, nextB
		if len(a.Kept)+len(b.Kept) != 0 {
			t.Errorf("time %d: %s\n%s", i, told(a), told(b))
		}
	}
}

// P13.4: opened again it is ErrOld, where the ratchet is the same; behind a turn it is ErrGap, or, where its Prev is within a gap, ErrAuth.
func TestOpenedTwice(t *testing.T) {
	a, b := two(t)
	a, l := many(t, a, 3, "one")
	for i, f := range l {
		b = opened(t, b, f, fresh(i), fmt.Sprint("one", i))
		wantNoOpen(t, "again", b, f, fresh(9), api.ErrOld)
	}
	b, f := sealed(t, b, text(), "back")
	a = opened(t, a, f, fresh(10), "back")
	wantNoOpen(t, "again", a, f, fresh(9), api.ErrOld)
	a, m := many(t, a, 2, "two")
	b = opened(t, b, m[1], fresh(11), "two1")
	wantNoOpen(t, "again", b, m[1], fresh(9), api.ErrOld)
	for _, old := range l {
		wantNoOpen(t, "again, behind a turn: nothing was ahead of it", b, old, fresh(9), api.ErrGap)
	}
	b = opened(t, b, m[0], fresh(12), "two0")
	wantNoOpen(t, "again, what was kept", b, m[0], fresh(9), api.ErrOld)
	b, f = sealed(t, b, text(), "back")
	a = opened(t, a, f, fresh(13), "back")
	_, n := sealed(t, a, text(), "three")
	b = opened(t, b, n, fresh(14), "three")
	for _, old := range m {
		wantNoOpen(t, "again, behind a turn: three were ahead of it", b, old, fresh(9), api.ErrAuth)
	}
}

// spoilt are frames like that one, each with one bit turned of what a head or a Body has.
func spoilt(f api.Frame) map[string]api.Frame {
	out := map[string]api.Frame{}
	for bit := range 8 * len(f.Body) {
		out[fmt.Sprint("Body, bit ", bit)] = changedFrame(f, func(f *api.Frame) { f.Body = turned(f.Body, bit) })
	}
	for bit := 0; bit < 64; bit += 7 {
		for i, name := range []string{"From", "To", "Id", "Signed", "Once"} {
			if i < 3 || f.Kind == api.FHello {
				out[fmt.Sprint(name, ", bit ", bit)] = changedFrame(f, func(f *api.Frame) { *[]*uint64{&f.From, &f.To, &f.Id, &f.Signed, &f.Once}[i] ^= 1 << bit })
			}
		}
	}
	for bit := 0; bit < 256; bit += 17 {
		if f.Kind == api.FHello {
			out[fmt.Sprint("Identity, bit ", bit)] = changedFrame(f, func(f *api.Frame) { f.Identity = turned(f.Identity, bit) })
			out[fmt.Sprint("Base, bit ", bit)] = changedFrame(f, func(f *api.Frame) { f.Base = turned(f.Base, bit) })
		}
	}
	out["cut"] = changedFrame(f, func(f *api.Frame) { f.Body = f.Body[1:] })
	out["longer"] = changedFrame(f, func(f *api.Frame) { f.Body += "\x00" })
	out["the tag alone"] = changedFrame(f, func(f *api.Frame) { f.Body = f.Body[len(f.Body)-32:] })
	out["bytes 0"] = changedFrame(f, func(f *api.Frame) { f.Body = strings.Repeat("\x00", len(f.Body)) })
	return out
}

// P13.3, P13.4: with one bit turned it is ErrAuth, of the ratchet that is there, of one that is new, and of a key that was kept; the session stays, and opens the frame as it was sealed.
func TestSpoilt(t *testing.T) {
	a, b := two(t)
	a, first := sealed(t, a, hello(), "first")
	a, kept := sealed(t, a, text(), "kept")
	_, later := sealed(t, a, text(), "later")
	past := opened(t, opened(t, b, first, fresh(1), "first"), later, fresh(2), "later")
	for _, x := range []struct {
		name, text string
		s          api.Session
		f          api.Frame
	}{
		{"a new ratchet", "first", b, first},
		{"the ratchet that is there", "later", opened(t, b, first, fresh(1), "first"), later},
		{"a kept key", "kept", past, kept},
	} {
		for name, f := range spoilt(x.f) {
			wantNoOpen(t, x.name+", "+name, x.s, f, fresh(3), api.ErrAuth)
		}
		opened(t, x.s, x.f, fresh(3), x.text)
	}
}

// P13.3: a Ratchet with one bit turned is a new one: ErrAuth, where its Prev may be, though the point is one with the highest bit or without; else ErrGap.
func TestSpoiltRatchets(t *testing.T) {
	a, b := two(t)
	_, l := many(t, a, 3, "text")
	one := opened(t, b, l[0], fresh(1), "text0")
	for bit := 0; bit < 256; bit += 15 {
		for i, f := range l {
			f.Ratchet = turned(f.Ratchet, bit)
			wantNoOpen(t, "the first one", b, f, fresh(2), api.ErrAuth)
			wantNoOpen(t, "a later one, Prev ahead of Got", one, f, fresh(2), api.ErrGap)
			f.Prev = 1 + uint64(i)
			wantNoOpen(t, "a later one", one, f, fresh(2), api.ErrAuth)
		}
	}
	opened(t, one, l[2], fresh(2), "text2")
}

// P13.3: Prev and N count as parts of the head, also where nothing else asks for them.
func TestSpoiltNumbers(t *testing.T) {
	a, b := two(t)
	a, l := many(t, a, 3, "text")
	one := opened(t, b, l[0], fresh(1), "text0")
	for _, n := range edges() {
		if n != 0 {
			wantNoOpen(t, "Prev of the first one", b, changedFrame(l[0], func(f *api.Frame) { f.Prev = n }), fresh(2), api.ErrAuth)
			wantNoOpen(t, "Prev of a later one", one, changedFrame(l[1], func(f *api.Frame) { f.Prev = n }), fresh(2), api.ErrAuth)
		}
	}
	for n, why := range map[uint64]api.Errno{0: api.ErrOld, 2: api.ErrAuth, 11: api.ErrAuth, 12: api.ErrGap, limit: api.ErrGap, top: api.ErrGap} {
		wantNoOpen(t, fmt.Sprint("N ", n), one, changedFrame(l[1], func(f *api.Frame) { f.N = n }), fresh(2), why)
	}
}

// P13.3: N at its ends, of the ratchet that is there: Got at each number, and N from far behind to far ahead.
func TestNumbersOfTheRatchet(t *testing.T) {
	for _, got := range []uint64{0, 1, 11, limit - 13, limit - 12, limit - 11, limit - 3, limit - 2, limit - 1} {
		_, b := at(t, got)
		for _, n := range slices.Concat(edges(), []uint64{got - 1, got, got + 1, got + 9, got + 10, got + 11}) {
			f := crafted(t, b, text(), b.Peer, top-n, n, "text")
			switch {
			case n < got:
				wantNoOpen(t, "N behind Got", b, f, fresh(1), api.ErrOld)
			case n-got > 10 || n >= limit-1:
				wantNoOpen(t, "N too far", b, f, fresh(1), api.ErrGap)
			default:
				next := opened(t, b, f, fresh(1), "text")
				if next.Got != n+1 || len(next.Kept) != int(n-got) {
					t.Errorf("Got %d, N %d: %s", got, n, told(next))
				}
			}
		}
	}
}

// P13.3: N of a new ratchet counts from 0; Prev from Got.
func TestNumbersOfANewRatchet(t *testing.T) {
	for _, got := range []uint64{0, 1, 11, limit - 12, limit - 2, limit - 1} {
		_, b := at(t, got)
		for _, prev := range slices.Concat(edges(), []uint64{got - 1, got, got + 1, got + 9, got + 10, got + 11}) {
			for _, n := range []uint64{0, 10, 11, limit - 2, limit - 1, limit, top} {
				f := crafted(t, b, text(), pointOf(t, key(30)), prev, n, "text")
				if prev < got || prev-got > 10 || n > 10 {
					wantNoOpen(t, fmt.Sprint("Prev ", prev, ", N ", n), b, f, fresh(0), api.ErrGap)
					continue
				}
				next := opened(t, b, f, fresh(0), "text")
				if next.Got != n+1 || next.Prev != b.Sent || next.Sent != 0 || len(next.Kept) != int(prev-got+n) {
					t.Errorf("Got %d, Prev %d, N %d: %s", got, prev, n, told(next))
				}
			}
		}
	}
}

// P13.3: without a Recv nothing is filled, and Prev is not asked; N is, from 0.
func TestPrevWithoutRecv(t *testing.T) {
	a, b := two(t)
	for _, s := range []api.Session{a, b, changed(full(), func(s *api.Session) { s.Recv = "" }), changed(full(), func(s *api.Session) { s.Recv, s.Got = "", limit-1 })} {
		for _, prev := range edges() {
			for _, n := range []uint64{0, 10} {
				f := crafted(t, s, text(), pointOf(t, key(30)), prev, n, "text")
				next := opened(t, s, f, fresh(0), "text")
				if len(next.Kept) != min(len(s.Kept)+int(n), mostKept) || next.Prev != s.Sent {
					t.Errorf("Prev %d, N %d: %s", prev, n, told(next))
				}
			}
			wantNoOpen(t, "N too far", s, crafted(t, s, text(), pointOf(t, key(30)), prev, 11, "text"), fresh(0), api.ErrGap)
		}
	}
}

// P13.3: of a ratchet that is there, without a Recv, there is nothing to come: ErrOld, whatever N is.
func TestNoRecv(t *testing.T) {
	a, _ := two(t)
	for _, s := range []api.Session{a, changed(full(), func(s *api.Session) { s.Recv, s.Got = "", 0 }), changed(full(), func(s *api.Session) { s.Recv = "" })} {
		for _, n := range edges() {
			f := changedFrame(text(), func(f *api.Frame) { f.Ratchet, f.N, f.Prev, f.Body = s.Peer, n, n, some(1, 40) })
			wantNoOpen(t, fmt.Sprint("N ", n), s, f, fresh(1), api.ErrOld)
		}
	}
}

// P13.3: a key that was kept is taken, whatever else the session has and the numbers are: no ratchet turns, and the fresh key is not used.
func TestKeptIsTaken(t *testing.T) {
	_, asked := two(t)
	for name, s := range map[string]api.Session{
		"full":            full(),
		"no Recv":         changed(full(), func(s *api.Session) { s.Recv = "" }),
		"no Send":         changed(full(), func(s *api.Session) { s.Send = "" }),
		"who is asked":    asked,
		"of its own Peer": changed(full(), func(s *api.Session) { s.Peer = key(100) }),
	} {
		for _, n := range edges() {
			l := table(mostKept)
			l[6].N = n // of ratchet 100
			s.Kept = l
			f := crafted(t, s, hello(), key(100), n/2, n, "text")
			next := opened(t, s, f, fresh(0), "text")
			wanted := s
			wanted.Kept = slices.Delete(slices.Clone(l), 6, 7)
			wanted.Used = append(slices.Clone(s.Used), tagKey(t, l[6].Key))
			wanted.Used = wanted.Used[max(0, len(wanted.Used)-mostUsed):]
			wantSession(t, name, next, wanted)
			wantNoOpen(t, name+", spoilt", s, changedFrame(f, func(f *api.Frame) { f.Body = turned(f.Body, 3) }), fresh(0), api.ErrAuth)
		}
	}
}

// P13.3: Kept at 20: the first ones go, and what they were of is not opened any more.
func TestKeptIsFull(t *testing.T) {
	a, b := talking(t)
	a, l := many(t, a, 33, "text")
	for i, n := range []int{10, 21, 32} {
		b = opened(t, b, l[n], fresh(10+i), fmt.Sprint("text", n))
	}
	if len(b.Kept) != mostKept || b.Kept[0].N != 11 || b.Kept[19].N != 31 {
		t.Fatal(told(b))
	}
	for i, f := range l {
		if i <= 10 || i == 21 || i == 32 {
			wantNoOpen(t, "it went", b, f, fresh(20), api.ErrOld)
		} else {
			opened(t, b, f, fresh(20), fmt.Sprint("text", i))
		}
	}
	b, f := sealed(t, b, text(), "back")
	a = opened(t, a, f, fresh(21), "back")
	a.Prev += 5 // as if five more had been sent
	_, m := many(t, a, 6, "turn")
	b = opened(t, b, m[5], fresh(22), "turn5")
	if len(b.Kept) != mostKept || b.Kept[0].N != 22 || b.Kept[10].N != 33 || b.Kept[14].N != 37 || b.Kept[15].N != 0 || b.Kept[19].N != 4 {
		t.Error(told(b))
	}
}

// P13.3: Used at 40: each key comes last, and the first one goes.
func TestUsedIsFull(t *testing.T) {
	a, b := talking(t)
	var wanted []string
	wanted = append(wanted, b.Used...)
	_, l := many(t, a, 44, "text")
	for i, f := range l {
		_, key, _ := keyByTheWords(t, b, f, fresh(i))
		b = opened(t, b, f, fresh(i), fmt.Sprint("text", i))
		wanted = append(wanted, tagKey(t, key))
		if !slices.Equal(b.Used, wanted[max(0, len(wanted)-mostUsed):]) {
			t.Fatalf("behind text %d: used %x", i, b.Used)
		}
	}
	if len(b.Used) != mostUsed || len(wanted) != 45 {
		t.Errorf("used %d of %d", len(b.Used), len(wanted))
	}
}

// P13.3: a table that has already what is to be filled is ErrOld: ahead of a turn, and of the chain then.
func TestFillsAreOld(t *testing.T) {
	_, b := at(t, 5)
	ratchet := pointOf(t, key(30))
	with := func(ratchet string, n uint64) api.Session {
		return changed(b, func(s *api.Session) { s.Kept = append(s.Kept, api.Kept{Ratchet: ratchet, N: n, Key: key(31)}) })
	}
	for n := range uint64(20) {
		s := with(b.Peer, n)
		there := crafted(t, s, text(), b.Peer, 0, 8, "text")
		turn := crafted(t, s, text(), ratchet, 9, 3, "text")
		if n >= 5 && n < 8 {
			wantNoOpen(t, "it is there", s, there, fresh(0), api.ErrOld)
		} else {
			opened(t, s, there, fresh(0), "text") // at 8 by the key that is kept
		}
		if n >= 5 && n < 9 {
			wantNoOpen(t, "it is there, ahead of a turn", s, turn, fresh(0), api.ErrOld)
		} else {
			opened(t, s, turn, fresh(0), "text")
		}
		s = with(ratchet, n)
		turn = crafted(t, s, text(), ratchet, 9, 3, "text")
		if n < 3 {
			wantNoOpen(t, "it is there, behind a turn", s, turn, fresh(0), api.ErrOld)
		} else {
			opened(t, s, turn, fresh(0), "text")
		}
	}
}

// P13.3: what is kept ahead of a turn makes room: what goes by that is not there any more when the chain behind the turn is filled.
func TestFillMakesRoom(t *testing.T) {
	_, b := at(t, 5)
	ratchet := pointOf(t, key(30))
	b.Kept = append([]api.Kept{{Ratchet: ratchet, N: 1, Key: key(31)}}, table(mostKept-1)...)
	wantNoOpen(t, "no room is made", b, crafted(t, b, text(), ratchet, 5, 2, "text"), fresh(0), api.ErrOld)
	opened(t, b, crafted(t, b, text(), ratchet, 6, 2, "text"), fresh(0), "text")
}

// P13.3: points that every key takes to 0, and Ratchets with the highest bit, are such as any.
func TestStrangeRatchets(t *testing.T) {
	_, b := two(t)
	_, c := at(t, 0)
	nothing := all("\x00")
	for _, ratchet := range []string{nothing, "\x01" + nothing[1:], all("\xff"), nothing[:31] + "\x80", "\xec" + all("\xff")[:30] + "\x7f"} {
		for _, s := range []api.Session{b, c} {
			for _, f := range kinds() {
				opened(t, s, crafted(t, s, f, ratchet, 2, 1, "text"), fresh(0), "text")
			}
		}
	}
}

// P13.3: frames that may not be, and those of FReveal, which may; ahead of the sizes.
func TestOpenWrongFrames(t *testing.T) {
	_, b := two(t)
	l := wrongFrames()
	for name, f := range map[string]api.Frame{
		"no Ratchet":            text(),
		"a first one, none":     hello(),
		"a Ratchet of 31 bytes": changedFrame(text(), func(f *api.Frame) { f.Ratchet = some(1, 31) }),
		"a Ratchet of 33 bytes": changedFrame(hello(), func(f *api.Frame) { f.Ratchet = some(1, 33) }),
		"a Ratchet of 1 byte":   changedFrame(hello(), func(f *api.Frame) { f.Ratchet = "r" }),
		"a Body of 1025 bytes":  changedFrame(text(), func(f *api.Frame) { f.Ratchet, f.Body = key(1), some(1, 1025) }),
		"a Body of 1056 bytes":  changedFrame(hello(), func(f *api.Frame) { f.Ratchet, f.Body = key(1), some(1, 1056) }),
	} {
		l[name] = f
	}
	for name, f := range l {
		for _, g := range []api.Frame{f, changedFrame(f, func(f *api.Frame) { f.Body = some(1, max(len(f.Body), 40)) })} {
			for _, s := range []api.Session{b, full()} {
				wantNoOpen(t, name, s, g, fresh(1), api.ErrArg)
				wantNoOpen(t, name+", a short key", s, g, "", api.ErrArg)
			}
		}
	}
}

// P13.3: keys of wrong sizes, and Bodies of fewer bytes than a tag has, whether the key is used or not.
func TestOpenWrongSizes(t *testing.T) {
	a, b := two(t)
	a, f := sealed(t, a, hello(), "")
	_, g := sealed(t, a, text(), "")
	later := opened(t, b, f, fresh(1), "")
	kept := opened(t, b, g, fresh(1), "")
	for name, s := range map[string]api.Session{"a new ratchet": b, "a ratchet that is there": later, "kept": kept} {
		whole := g
		if name == "kept" {
			whole = f
		}
		if len(whole.Body) != 32 {
			t.Fatalf("a Body of %d bytes", len(whole.Body))
		}
		opened(t, s, whole, fresh(2), "")
		for _, wrong := range wrongKeys() {
			wantNoOpen(t, fmt.Sprintf("%s, a key of %d bytes", name, len(wrong)), s, whole, wrong, api.ErrSize)
		}
		for _, many := range []int{0, 1, 16, 30, 31} {
			short := changedFrame(whole, func(f *api.Frame) { f.Body = f.Body[:many] })
			wantNoOpen(t, fmt.Sprintf("%s, a Body of %d bytes", name, many), s, short, fresh(2), api.ErrSize)
			wantNoOpen(t, fmt.Sprintf("%s, a Body of %d bytes, a short key", name, many), s, short, "k", api.ErrSize)
		}
		for _, many := range []int{32, 33, 1023, 1024} {
			long := changedFrame(whole, func(f *api.Frame) { f.Body = some(7, many) })
			wantNoOpen(t, fmt.Sprintf("%s, a Body of %d bytes", name, many), s, long, fresh(2), api.ErrAuth)
		}
	}
}

// fault is a thing that is wrong with a call of Open, and the error that it is.
type fault struct {
	name string
	why  api.Errno
	do   func(*api.Session, *api.Frame, *string)
}

// faultsOfCalls are those that are found ahead of the steps.
func faultsOfCalls() []fault {
	return []fault{
		{"a wrong session", api.ErrArg, func(s *api.Session, _ *api.Frame, _ *string) { s.Root = s.Root[1:] }},
		{"a wrong frame", api.ErrArg, func(_ *api.Session, f *api.Frame, _ *string) { f.Signed = 1 }},
		{"a wrong key", api.ErrSize, func(_ *api.Session, _ *api.Frame, fresh *string) { *fresh += "\x00" }},
		{"a short Body", api.ErrSize, func(_ *api.Session, f *api.Frame, _ *string) { f.Body = f.Body[:31] }},
	}
}

func numberFault(name string, why api.Errno, field func(*api.Frame) *uint64, n uint64) fault {
	return fault{name, why, func(_ *api.Session, f *api.Frame, _ *string) { *field(f) = n }}
}

func keptFault(ratchet string, n uint64) fault {
	return fault{fmt.Sprint(n, " is kept"), api.ErrOld, func(s *api.Session, _ *api.Frame, _ *string) {
		s.Kept = append(slices.Clone(s.Kept), api.Kept{Ratchet: ratchet, N: n, Key: key(60)})
	}}
}

func prevOf(f *api.Frame) *uint64 { return &f.Prev }

func nOf(f *api.Frame) *uint64 { return &f.N }

func spoiltBody() fault {
	return fault{"a spoilt Body", api.ErrAuth, func(_ *api.Session, f *api.Frame, _ *string) { f.Body = turned(f.Body, 0) }}
}

// wantFirst asks, of every set of the faults, for the error of the first one of it.
func wantFirst(t *testing.T, s api.Session, f api.Frame, faults []fault) {
	t.Helper()
	opened(t, s, f, fresh(0), "text")
	for set := 1; set < 1<<len(faults); set++ {
		spoiltS, spoiltF, spoiltKey := s, f, fresh(0)
		wanted, name := api.OK, ""
		for i, x := range faults {
			if set>>i&1 == 0 {
				continue
			}
			x.do(&spoiltS, &spoiltF, &spoiltKey)
			name += x.name + ", "
			if wanted == api.OK {
				wanted = x.why
			}
		}
		wantNoOpen(t, name, spoiltS, spoiltF, spoiltKey, wanted)
	}
}

// P13.3: several errors at once, of a frame of a new ratchet: the first one in the chapter's order is told.
func TestOrderOfErrorsAtATurn(t *testing.T) {
	_, b := at(t, 5)
	ratchet := pointOf(t, key(30))
	f := crafted(t, b, text(), ratchet, 8, 3, "text")
	for _, prev := range []uint64{4, 16} {
		for _, n := range []uint64{11, limit - 1} {
			wantFirst(t, b, f, append(faultsOfCalls(),
				numberFault("Prev", api.ErrGap, prevOf, prev), keptFault(b.Peer, 6),
				numberFault("N", api.ErrGap, nOf, n), keptFault(ratchet, 1), spoiltBody()))
		}
	}
}

// P13.3: the same, of a frame of the ratchet that is there.
func TestOrderOfErrors(t *testing.T) {
	_, b := at(t, 5)
	f := crafted(t, b, text(), b.Peer, 1, 9, "text")
	for n, why := range map[uint64]api.Errno{4: api.ErrOld, 16: api.ErrGap, limit - 1: api.ErrGap, top: api.ErrGap} {
		wantFirst(t, b, f, append(faultsOfCalls(), numberFault("N", why, nOf, n), keptFault(b.Peer, 6), spoiltBody()))
	}
	_, c := at(t, limit-4)
	f = crafted(t, c, text(), c.Peer, 1, limit-2, "text")
	wantFirst(t, c, f, append(faultsOfCalls(), numberFault("N", api.ErrGap, nOf, limit-1), keptFault(c.Peer, limit-3), spoiltBody()))
}

// P13.3: the same, without a Recv, of a new ratchet and of the one that is there; of a kept key nothing but the Body is asked.
func TestOrderOfErrorsWithoutRecv(t *testing.T) {
	ratchet := pointOf(t, key(30))
	s := changed(full(), func(s *api.Session) { s.Recv, s.Kept = "", table(3) })
	f := crafted(t, s, text(), ratchet, top, 3, "text")
	wantFirst(t, s, f, append(faultsOfCalls(), numberFault("N", api.ErrGap, nOf, 11), keptFault(ratchet, 1), spoiltBody()))
	kept := crafted(t, s, text(), key(100), top, 1000, "text")
	wantFirst(t, s, kept, append(faultsOfCalls(), spoiltBody()))
	there := fault{"the ratchet that is there", api.ErrOld, func(s *api.Session, f *api.Frame, _ *string) { f.Ratchet = s.Peer }}
	wantFirst(t, s, f, append(faultsOfCalls(), there, numberFault("N", api.ErrGap, nOf, top), spoiltBody()))
}

// mailOfTwo are frames that are on their way, and were opened, by who is to open them.
type mailOfTwo struct {
	s      [2]api.Session
	due    [2]map[string]api.Frame
	opened [2][]api.Frame
	drawn  int
}

func (m *mailOfTwo) seal(t *testing.T, who int) {
	t.Helper()
	if m.s[who].Send == "" {
		wantNoSeal(t, "ahead of any frame", m.s[who], text(), "text", api.ErrState)
		return
	}
	m.drawn++
	wanted := fmt.Sprint("text ", m.drawn)
	next, f := sealed(t, m.s[who], kinds()[m.drawn%2], wanted)
	m.s[who], m.due[1-who][wanted] = next, f
}

func (m *mailOfTwo) open(t *testing.T, who int, wanted string) {
	t.Helper()
	m.drawn++
	f := m.due[who][wanted]
	next, got, why := open(t, m.s[who], f, fresh(m.drawn))
	if why != api.OK {
		return // too far, or behind what is kept: what the words say is asked by open
	}
	want(t, "the text", got, wanted)
	delete(m.due[who], wanted)
	m.s[who], m.opened[who] = next, append(m.opened[who], f)
}

// P13.4: two who seal and open in an order without a rule: what is opened is what was sealed, and never twice.
func TestAnyOrder(t *testing.T) {
	for seed := range int64(6) {
		r := rand.New(rand.NewSource(seed))
		m := mailOfTwo{due: [2]map[string]api.Frame{{}, {}}}
		m.s[0], m.s[1] = two(t)
		for range 120 {
			who := r.Intn(2)
			names := slices.Sorted(maps.Keys(m.due[who]))
			switch l := m.opened[who]; {
			case len(names) == 0 || r.Intn(5) < 2:
				m.seal(t, who)
			case len(l) > 0 && r.Intn(4) == 0:
				f := l[r.Intn(len(l))]
				if _, _, why := open(t, m.s[who], f, fresh(0)); why != api.ErrOld && why != api.ErrGap && why != api.ErrAuth {
					t.Errorf("opened again: error %d", why)
				}
			default:
				m.open(t, who, names[r.Intn(len(names))])
			}
		}
		if len(m.opened[0])+len(m.opened[1]) < 30 {
			t.Errorf("seed %d: %d opened", seed, len(m.opened[0])+len(m.opened[1]))
		}
	}
}

// near is a number of one of the places at which much happens.
func near(r *rand.Rand) uint64 {
	return []uint64{0, 0, 0, 5, 10, limit - 15, limit - 5}[r.Intn(7)] + uint64(r.Intn(5))
}

// anySession is one that may be, of few ratchets and numbers, so that much of it meets.
func anySession(r *rand.Rand, ratchets []string) api.Session {
	s := api.Session{Own: key(r.Intn(4)), Root: key(4), Sent: near(r), Got: near(r) % limit, Prev: near(r), Used: used(r.Intn(mostUsed + 1))}
	if r.Intn(8) > 0 {
		s.Peer = ratchets[r.Intn(len(ratchets))]
		s.Send, s.Recv = key(5), key(6)
		if kind := r.Intn(8); kind == 0 {
			s.Send = ""
		} else if kind == 1 {
			s.Recv = ""
		}
	}
	for i := range r.Intn(8) * r.Intn(4) {
		k := api.Kept{Ratchet: ratchets[r.Intn(len(ratchets))], N: near(r) + uint64(r.Intn(16)), Key: key(10 + i)}
		if place(s.Kept, k.Ratchet, k.N) < 0 && len(s.Kept) < mostKept {
			s.Kept = append(s.Kept, k)
		}
	}
	return s
}

// P13.2, P13.3: sessions and frames without a rule are as the words say.
func TestAnySession(t *testing.T) {
	r := rand.New(rand.NewSource(7))
	ratchets := []string{pointOf(t, key(40)), pointOf(t, key(41)), pointOf(t, key(42))}
	found := map[api.Errno]int{}
	for range 900 {
		s := anySession(r, ratchets)
		f := crafted(t, s, kinds()[r.Intn(2)], ratchets[r.Intn(3)], s.Got+uint64(r.Intn(14))-1, near(r), "text")
		if r.Intn(2) == 0 && s.Peer != "" {
			f = crafted(t, s, f, s.Peer, near(r), s.Got+uint64(r.Intn(14))-1, "text")
		}
		if r.Intn(8) == 0 {
			f.Body = turned(f.Body, r.Intn(8*len(f.Body)))
		}
		_, _, why := open(t, s, f, fresh(0))
		found[why]++
		if r.Intn(8) == 0 {
			seal(t, s, f, "text")
		}
	}
	for _, why := range []api.Errno{api.OK, api.ErrAuth, api.ErrOld, api.ErrGap} {
		if found[why] < 30 {
			t.Errorf("error %d: %d times", why, found[why])
		}
	}
}

// roomy is a session whose lists have room behind their ends, in which there are others, and all of these.
func roomy(s api.Session) (api.Session, []api.Kept, []string) {
	kept := append(slices.Clone(s.Kept), table(40)[30:]...)
	used := append(slices.Clone(s.Used), used(90)[60:]...)
	s.Kept, s.Used = kept[:len(s.Kept)], used[:len(s.Used)]
	return s, kept, used
}

func toldLists(kept []api.Kept, used []string) string {
	return told(api.Session{Kept: kept, Used: used})
}

// wanting is a call of Open on a session.
type wanting struct {
	s     api.Session
	f     api.Frame
	fresh string
}

// wantings are calls that go well on each of the ways, and that end in each of the errors.
func wantings(t *testing.T) []wanting {
	t.Helper()
	_, b := at(t, 5)
	b.Kept, b.Used = table(7), used(8)
	f := changed(full(), func(s *api.Session) { s.Got = 5 })
	ratchet := pointOf(t, key(30))
	var out []wanting
	for _, s := range []api.Session{b, f, changed(f, func(s *api.Session) { s.Kept, s.Used = nil, nil })} {
		for _, g := range []api.Frame{
			crafted(t, s, text(), s.Peer, 0, 5, "text"),
			crafted(t, s, text(), s.Peer, 0, 9, "text"),
			crafted(t, s, hello(), ratchet, 5, 0, "text"),
			crafted(t, s, hello(), ratchet, 9, 3, "text"),
			crafted(t, s, text(), key(100), 9, 1000, "text"),
			crafted(t, s, text(), s.Peer, 0, 4, "text"),
			crafted(t, s, text(), ratchet, 9, 11, "text"),
			changedFrame(crafted(t, s, text(), ratchet, 9, 3, "text"), func(f *api.Frame) { f.Body = turned(f.Body, 9) }),
		} {
			out = append(out, wanting{s, g, fresh(0)}, wanting{s, g, ""})
		}
	}
	return out
}

// R4: no call changes what it was handed, nor what stands in the room behind its ends; what was told stays when more is done with it.
func TestNothingIsChanged(t *testing.T) {
	for _, w := range wantings(t) {
		s, kept, used := roomy(w.s)
		keys := []string{"a", "b", "c"}
		w.f.Keys = keys[:0]
		before := toldLists(kept, used)
		next, _, why := open(t, s, w.f, w.fresh)
		other, f, _ := seal(t, s, w.f, "text")
		first, second := told(next), told(other)
		if why == api.OK {
			open(t, next, w.f, w.fresh)
			seal(t, next, w.f, "more")
			open(t, next, crafted(t, next, text(), next.Peer, 0, next.Got+2, "more"), fresh(0))
		}
		open(t, other, w.f, w.fresh)
		seal(t, other, f, "more")
		session.Right(s)
		session.Like(s, next)
		want(t, "the lists, with their room", toldLists(kept, used), before)
		want(t, "the session that was told", told(next), first)
		want(t, "the other one", told(other), second)
		want(t, "the frame's keys, with their room", strings.Join(keys, ""), "abc")
	}
}

// spoil changes all that a session's lists have, with their room.
func spoil(s api.Session) {
	for i := range s.Kept[:cap(s.Kept)] {
		s.Kept[:cap(s.Kept)][i] = api.Kept{Ratchet: "changed"}
	}
	for i := range s.Used[:cap(s.Used)] {
		s.Used[:cap(s.Used)][i] = "changed"
	}
}

// R4: what is done with an answer is not to be seen in what was handed in, nor in another answer; and the other way round.
func TestAnswersAreTheirOwn(t *testing.T) {
	for _, w := range wantings(t) {
		s, kept, used := roomy(w.s)
		keys := []string{"a", "b", "c"}
		w.f.Keys = keys[:0]
		before := toldLists(kept, used)
		next, _, _ := open(t, s, w.f, w.fresh)
		again, _, _ := open(t, s, w.f, w.fresh)
		other, f, _ := seal(t, s, w.f, "text")
		last, _, _ := seal(t, s, w.f, "text")
		toldAgain, toldLast := told(again), told(last)
		spoil(next)
		spoil(other)
		for i := range f.Keys[:cap(f.Keys)] {
			f.Keys[:cap(f.Keys)][i] = "changed"
		}
		want(t, "the lists", toldLists(kept, used), before)
		want(t, "the frame's keys", strings.Join(keys, ""), "abc")
		spoil(s)
		want(t, "another answer of Open", told(again), toldAgain)
		want(t, "another answer of Seal", told(last), toldLast)
	}
}

// R1: no answer hangs on a call ahead of it.
func TestNothingIsKept(t *testing.T) {
	l := wantings(t)
	answers := func() []string {
		var out []string
		for _, w := range l {
			next, text, why := session.Open(w.s, w.f, w.fresh)
			other, f, whyNot := session.Seal(w.s, w.f, "text")
			out = append(out, fmt.Sprint(told(next), text, why, told(other), toldFrame(f), whyNot))
		}
		return out
	}
	wanted := answers()
	slices.Reverse(l)
	again := answers()
	slices.Reverse(again)
	if !slices.Equal(again, wanted) {
		t.Error("other answers in another order")
	}
}

// P1: at arguments of nothing none panics.
func TestNothingAtAll(t *testing.T) {
	wantNoSeal(t, "nothing", api.Session{}, api.Frame{}, "", api.ErrArg)
	wantNoOpen(t, "nothing", api.Session{}, api.Frame{}, "", api.ErrArg)
	if s, why := session.Start("", "", ""); why != api.ErrSize || told(s) != told(api.Session{}) {
		t.Errorf("Start: %s, error %d", told(s), why)
	}
	if s, why := session.Accept("", ""); why != api.ErrSize || told(s) != told(api.Session{}) {
		t.Errorf("Accept: %s, error %d", told(s), why)
	}
}

func FuzzAll(f *testing.F) {
	f.Add(int64(1), "text", "", uint64(0), uint64(0), byte(0))
	f.Add(int64(2), "", "body", uint64(5), uint64(14), byte(1))
	f.Add(int64(3), strings.Repeat("x", 993), strings.Repeat("b", 32), uint64(limit-1), uint64(top), byte(2))
	f.Add(int64(4), strings.Repeat("x", 992), strings.Repeat("b", 1025), uint64(top), uint64(limit), byte(7))
	f.Fuzz(func(t *testing.T, seed int64, s, body string, prev, n uint64, how byte) {
		r := rand.New(rand.NewSource(seed))
		ratchets := []string{pointOf(t, key(40)), pointOf(t, key(41)), s}
		one := anySession(r, ratchets)
		g := kinds()[how&1]
		g.Ratchet, g.Prev, g.N, g.Body = ratchets[how>>1&3%3], prev, n, body
		if how&8 != 0 {
			one.Got, one.Sent, one.Prev = n-uint64(how>>4), prev, n
		}
		if how&16 != 0 && len(s) <= mostText && rightByTheWords(one) && len(g.Ratchet) == 32 {
			g = crafted(t, one, g, g.Ratchet, prev, n, s)
		}
		next, _, _ := open(t, one, g, fresh(0))
		open(t, one, g, s)
		seal(t, one, g, s)
		seal(t, next, g, s)
		if session.Right(one) != rightByTheWords(one) || !session.Like(one, one) || session.Like(one, next) != (told(one) == told(next)) {
			t.Errorf("%s: right or not, like or not", told(one))
		}
	})
}

func BenchmarkSealAndOpen(b *testing.B) {
	peer := "\x09" + strings.Repeat("\x00", 31)
	for range b.N {
		s, _ := session.Start(all("s"), peer, all("f"))
		_, f, _ := session.Seal(s, text(), "text")
		c, _ := session.Accept(all("s"), all("o"))
		session.Open(c, f, all("g"))
	}
}

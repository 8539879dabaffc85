package reveal_test

import (
	"crypto/hmac"
	"crypto/sha256"
	"encoding/binary"
	"encoding/hex"
	"fmt"
	"math"
	"math/rand"
	"slices"
	"strings"
	"testing"

	"demurral/api"
	"demurral/frame"
	"demurral/ladder"
	"demurral/lock"
	"demurral/reveal"
	"demurral/session"
)

const (
	mostKeys = 32
	mostUsed = 40
	mostKept = 20
	mostBody = 1024
	limit    = 1 << 32
	top      = math.MaxUint64
)

// some are bytes without a rule, the same at every run.
func some(seed int64, many int) string {
	b := make([]byte, many)
	rand.New(rand.NewSource(seed)).Read(b)
	return string(b)
}

func all(s string) string { return strings.Repeat(s, 32) }

// rising are 32 bytes, each one more than that ahead.
func rising(first byte) string {
	var b []byte
	for i := range byte(32) {
		b = append(b, first+i)
	}
	return string(b)
}

// turned is the text with one bit of it turned.
func turned(s string, bit int) string {
	b := []byte(s)
	b[bit/8] ^= 1 << (bit % 8)
	return string(b)
}

func raw(t *testing.T, s string) string {
	t.Helper()
	b, err := hex.DecodeString(s)
	if err != nil {
		t.Fatal(err)
	}
	return string(b)
}

// key is one without a rule, told faster than by some: tests have a lot of them.
func key(i int) string {
	sum := sha256.Sum256(binary.BigEndian.AppendUint32([]byte("key"), uint32(i)))
	return string(sum[:])
}

func keys(first, many int) []string {
	var out []string
	for i := range many {
		out = append(out, key(first+i))
	}
	return out
}

// wrongKeys are of the sizes that the document does not allow: those next to 32 among them, and one that has 32 in its lowest bits.
func wrongKeys() []string {
	var out []string
	for _, many := range []int{0, 1, 16, 31, 33, 64, 256 + 32} {
		out = append(out, strings.Repeat("\x00", many), some(90, many))
	}
	return out
}

func table(many int) []api.Kept {
	var out []api.Kept
	for i := range many {
		out = append(out, api.Kept{Ratchet: key(100 + i%3), N: 1000 + uint64(i), Key: key(200 + i)})
	}
	return out
}

// full is a session that has all it can.
func full() api.Session {
	return api.Session{
		Own: key(1), Peer: key(2), Root: key(3), Send: key(4), Recv: key(5),
		Sent: 6, Got: 7, Prev: 8, Kept: table(mostKept), Used: keys(300, mostUsed),
	}
}

func changed(s api.Session, change func(*api.Session)) api.Session {
	s.Kept, s.Used = slices.Clone(s.Kept), slices.Clone(s.Used)
	change(&s)
	return s
}

func withUsed(many int) api.Session {
	return changed(full(), func(s *api.Session) { s.Used = keys(300, many) })
}

func hello() api.Frame {
	return api.Frame{
		Kind: api.FHello, From: 1, To: 2, Id: 3, Identity: key(50), Base: key(51), Signed: 4, Once: 5,
		Ratchet: key(52), Prev: 6, N: 7,
	}
}

func text() api.Frame {
	return api.Frame{Kind: api.FText, From: 1, To: 2, Id: 3, Ratchet: key(52), Prev: 6, N: 7}
}

func kinds() []api.Frame { return []api.Frame{hello(), text()} }

func changedFrame(f api.Frame, change func(*api.Frame)) api.Frame {
	f.Keys = slices.Clone(f.Keys)
	change(&f)
	return f
}

// What follows, up to changeByTheWords, is the chapters' words, with the library's HMAC.
func number(n uint64) string {
	b := strings.TrimLeft(string(binary.BigEndian.AppendUint64(nil, n)), "\x00")
	return string(rune(len(b))) + b
}

func headOf(f api.Frame) string {
	s := number(uint64(f.Kind)) + number(f.From) + number(f.To) + number(f.Id)
	if f.Kind == api.FHello {
		s += "\x01\x20" + f.Identity + "\x01\x20" + f.Base + number(f.Signed) + number(f.Once)
	}
	return s + "\x01\x20" + f.Ratchet + number(f.Prev) + number(f.N)
}

func tagOf(key, head, bytes string) string {
	m := hmac.New(sha256.New, []byte(key))
	m.Write(binary.BigEndian.AppendUint16(nil, uint16(len(head))))
	m.Write([]byte(head + bytes))
	return string(m.Sum(nil))
}

// tagged is the frame with these bytes as its Body, and their tag.
func tagged(key string, f api.Frame, bytes string) api.Frame {
	f.Body = bytes + tagOf(key, headOf(f), bytes)
	return f
}

func allOf32(l ...string) bool {
	return !slices.ContainsFunc(l, func(s string) bool { return len(s) != 32 })
}

func rightFrame(f api.Frame) bool {
	switch f.Kind {
	case 0:
		return allOf32(f.Identity, f.Base, f.Ratchet) && len(f.Body) <= 1024 && len(f.Keys) == 0
	case 1:
		return allOf32(f.Ratchet) && len(f.Body) <= 1024 && len(f.Keys) == 0 && f.Identity+f.Base == "" && f.Signed|f.Once == 0
	case 2:
		return allOf32(f.Keys...) && len(f.Keys) <= 32 && f.Identity+f.Base+f.Ratchet+f.Body == "" && f.Signed|f.Once|f.Prev|f.N == 0
	}
	return false
}

func takeByTheWords(s api.Session, most int) (api.Session, []string, api.Errno) {
	if !session.Right(s) {
		return api.Session{}, nil, 1
	}
	if most < 0 || most > 32 {
		return api.Session{}, nil, 2
	}
	var told, left []string
	for i, k := range s.Used {
		if i < most {
			told = append(told, k)
		} else {
			left = append(left, k)
		}
	}
	s.Used = left
	return s, told, 0
}

func frameByTheWords(from, to, id uint64, l []string) (api.Frame, api.Errno) {
	if len(l) > 32 || !allOf32(l...) {
		return api.Frame{}, 1
	}
	return api.Frame{Kind: 2, From: from, To: to, Id: id, Keys: l}, 0
}

func coversByTheWords(l []string, f api.Frame) (bool, api.Errno) {
	if !rightFrame(f) || f.Kind == 2 {
		return false, 1
	}
	if len(f.Body) < 32 {
		return false, 2
	}
	end := len(f.Body) - 32
	for _, k := range l {
		if len(k) == 32 && tagOf(k, headOf(f), f.Body[:end]) == f.Body[end:] {
			return true, 0
		}
	}
	return false, 0
}

func changeByTheWords(l []string, f api.Frame, old, other string) (api.Frame, api.Errno) {
	is, why := coversByTheWords(l, f)
	if why != 0 {
		return api.Frame{}, why
	}
	if !is {
		return api.Frame{}, 5
	}
	if len(old) != len(f.Body)-32 || len(other) != len(f.Body)-32 {
		return api.Frame{}, 2
	}
	b := []byte(f.Body[:len(f.Body)-32])
	for i := range b {
		b[i] ^= old[i] ^ other[i]
	}
	i := slices.IndexFunc(l, func(k string) bool {
		is, _ := coversByTheWords([]string{k}, f)
		return is
	})
	return tagged(l[i], f, string(b)), 0
}

// told is all of a session.
func told(s api.Session) string {
	out := fmt.Sprintf("own %x peer %x root %x send %x recv %x sent %d got %d prev %d, %d kept:", s.Own, s.Peer, s.Root, s.Send, s.Recv, s.Sent, s.Got, s.Prev, len(s.Kept))
	for _, k := range s.Kept {
		out += fmt.Sprintf(" (%x %d %x)", k.Ratchet, k.N, k.Key)
	}
	return out + fmt.Sprintf(", %d used: %x", len(s.Used), s.Used)
}

func toldFrame(f api.Frame) string {
	f.Keys = append([]string{}, f.Keys...) // no list counts as one of none
	return fmt.Sprintf("%#v", f)
}

func want(t *testing.T, what, got, wanted string) {
	t.Helper()
	if got != wanted {
		t.Errorf("%s: %.300q; wanted %.300q", what, got, wanted)
	}
}

func wantList(t *testing.T, what string, got, wanted []string) {
	t.Helper()
	if !slices.Equal(got, wanted) {
		t.Errorf("%s: %x; wanted %x", what, got, wanted)
	}
}

func wantErr(t *testing.T, what string, got, wanted api.Errno) {
	t.Helper()
	if got != wanted {
		t.Errorf("%s: error %d; wanted error %d", what, got, wanted)
	}
}

// take asks what the words say, and that the session stays.
func take(t *testing.T, s api.Session, most int) (api.Session, []string, api.Errno) {
	t.Helper()
	wanted, wantedKeys, wantedWhy := takeByTheWords(s, most)
	before := told(s)
	next, l, why := reveal.Take(s, most)
	wantErr(t, "Take", why, wantedWhy)
	want(t, "Take", told(next), told(wanted))
	wantList(t, "its keys", l, wantedKeys)
	want(t, "the session that was handed in", told(s), before)
	return next, l, why
}

// tell asks what the words say of a frame with keys, and that these stay.
func tell(t *testing.T, from, to, id uint64, l []string) (api.Frame, api.Errno) {
	t.Helper()
	before := slices.Clone(l)
	wanted, wantedWhy := frameByTheWords(from, to, id, l)
	f, why := reveal.Frame(from, to, id, l)
	wantErr(t, "Frame", why, wantedWhy)
	want(t, "Frame", toldFrame(f), toldFrame(wanted))
	wantList(t, "the keys that were handed in", l, before)
	return f, why
}

// covers asks what the words say, and that keys and frame stay.
func covers(t *testing.T, l []string, f api.Frame) (bool, api.Errno) {
	t.Helper()
	before, beforeFrame := slices.Clone(l), toldFrame(f)
	wanted, wantedWhy := coversByTheWords(l, f)
	is, why := reveal.Covers(l, f)
	wantErr(t, "Covers", why, wantedWhy)
	if is != wanted {
		t.Errorf("Covers: %v; wanted %v", is, wanted)
	}
	wantList(t, "the keys that were handed in", l, before)
	want(t, "the frame that was handed in", toldFrame(f), beforeFrame)
	return is, why
}

// change asks what the words say, and that keys and frame stay.
func change(t *testing.T, l []string, f api.Frame, old, other string) (api.Frame, api.Errno) {
	t.Helper()
	before, beforeFrame := slices.Clone(l), toldFrame(f)
	wanted, wantedWhy := changeByTheWords(l, f, old, other)
	g, why := reveal.Change(l, f, old, other)
	wantErr(t, "Change", why, wantedWhy)
	want(t, "Change", toldFrame(g), toldFrame(wanted))
	wantList(t, "the keys that were handed in", l, before)
	want(t, "the frame that was handed in", toldFrame(f), beforeFrame)
	return g, why
}

func wantCovers(t *testing.T, what string, l []string, f api.Frame, wanted bool) {
	t.Helper()
	if is, why := covers(t, l, f); is != wanted || why != api.OK {
		t.Errorf("Covers, %s: %v, error %d; wanted %v", what, is, why, wanted)
	}
}

func wantNoCovers(t *testing.T, what string, l []string, f api.Frame, wanted api.Errno) {
	t.Helper()
	if is, why := covers(t, l, f); is || why != wanted {
		t.Errorf("Covers, %s: %v, error %d; wanted error %d", what, is, why, wanted)
	}
}

func wantNoChange(t *testing.T, what string, l []string, f api.Frame, old, other string, wanted api.Errno) {
	t.Helper()
	if g, why := change(t, l, f, old, other); why != wanted || toldFrame(g) != toldFrame(api.Frame{}) {
		t.Errorf("Change, %s: %s, error %d; wanted error %d", what, toldFrame(g), why, wanted)
	}
}

func wantChange(t *testing.T, what string, l []string, f api.Frame, old, other string) api.Frame {
	t.Helper()
	g, why := change(t, l, f, old, other)
	if why != api.OK {
		t.Errorf("Change, %s: error %d", what, why)
	}
	return g
}

func wantNoTake(t *testing.T, what string, s api.Session, most int, wanted api.Errno) {
	t.Helper()
	if next, l, why := take(t, s, most); why != wanted || len(l) != 0 || told(next) != told(api.Session{}) {
		t.Errorf("Take of %d, %s: %s, %x, error %d; wanted error %d", most, what, told(next), l, why, wanted)
	}
}

func wantNoFrame(t *testing.T, what string, l []string) {
	t.Helper()
	for _, n := range []uint64{0, 1, top} {
		if f, why := tell(t, n, n, n, l); why != api.ErrArg || toldFrame(f) != toldFrame(api.Frame{}) {
			t.Errorf("Frame, %s: %s, error %d", what, toldFrame(f), why)
		}
	}
}

// P14.1: as many of the first keys as are asked for, or all, if there are fewer, in their order; what is told is the session, without them.
func TestTake(t *testing.T) {
	for _, many := range []int{0, 1, 2, 3, 31, 32, 33, 39, 40} {
		s := withUsed(many)
		for most := range mostKeys + 1 {
			next, l, why := take(t, s, most)
			wantErr(t, fmt.Sprintf("%d of %d", most, many), why, api.OK)
			wantList(t, fmt.Sprintf("%d of %d: keys", most, many), l, keys(300, min(most, many)))
			wantList(t, fmt.Sprintf("%d of %d: left", most, many), next.Used, keys(300, many)[min(most, many):])
			next.Used = s.Used
			want(t, "the session but for Used", told(next), told(s))
		}
		for _, most := range []int{-1, -2, -32, 33, 34, 40, 41, 64, 256, 1 << 32, 1<<32 + 1, -1 << 32, math.MaxInt, math.MinInt} {
			wantNoTake(t, fmt.Sprintf("%d used", many), s, most, api.ErrSize)
		}
	}
}

// P14.1: sessions of all sorts that may be, with all of each taken, and none.
func TestTakeOfAnySession(t *testing.T) {
	for name, s := range map[string]api.Session{
		"of who is asked":      {Own: key(1), Root: key(2)},
		"of who begins":        {Own: key(1), Root: key(2), Peer: key(3), Send: key(4)},
		"without Send":         changed(full(), func(s *api.Session) { s.Send = "" }),
		"lists that are empty": {Own: key(1), Root: key(2), Kept: []api.Kept{}, Used: []string{}},
		"used without Peer":    {Own: key(1), Root: key(2), Used: keys(7, 3)},
		"bytes 0":              {Own: all("\x00"), Root: all("\x00"), Used: []string{all("\x00")}},
		"none kept":            changed(full(), func(s *api.Session) { s.Kept = nil }),
		"numbers at their end": changed(full(), func(s *api.Session) { s.Sent, s.Got, s.Prev = limit-1, limit-1, limit-1 }),
		"one key twenty times": changed(full(), func(s *api.Session) { s.Used = slices.Repeat([]string{key(1), key(2)}, 20) }),
	} {
		for _, most := range []int{0, 1, 2, 31, 32} {
			if _, _, why := take(t, s, most); why != api.OK {
				t.Errorf("%s, %d: error %d", name, most, why)
			}
		}
	}
}

// P14.1: taken again and again, each key is told once, in its order, and then none is; the session still may be.
func TestTakeAllOfThem(t *testing.T) {
	for most := 1; most <= mostKeys; most++ {
		s := full()
		var out []string
		for range mostUsed/most + 1 {
			next, l, _ := take(t, s, most)
			if !session.Right(next) {
				t.Fatalf("%d at once: a session that may not be: %s", most, told(next))
			}
			s, out = next, append(out, l...)
		}
		wantList(t, fmt.Sprintf("%d at once", most), out, keys(300, mostUsed))
		if next, l, why := take(t, s, most); why != api.OK || len(l) != 0 || len(next.Used) != 0 {
			t.Errorf("%d at once, behind the last: %x, error %d", most, l, why)
		}
	}
}

func keysOf(s *api.Session) []*string {
	return []*string{&s.Own, &s.Root, &s.Peer, &s.Send, &s.Recv}
}

func numbersOf(s *api.Session) []*uint64 { return []*uint64{&s.Sent, &s.Got, &s.Prev} }

// wrongSessions are such that may not be, each for one reason.
func wrongSessions() map[string]api.Session {
	out := map[string]api.Session{
		"of nothing":             {},
		"used alone":             {Used: keys(300, 2)},
		"a Peer alone":           changed(full(), func(s *api.Session) { s.Send, s.Recv = "", "" }),
		"no Peer":                changed(full(), func(s *api.Session) { s.Peer = "" }),
		"21 kept":                changed(full(), func(s *api.Session) { s.Kept = table(mostKept + 1) }),
		"the same kept twice":    changed(full(), func(s *api.Session) { s.Kept[19].Ratchet, s.Kept[19].N = s.Kept[0].Ratchet, s.Kept[0].N }),
		"a kept key of 31 bytes": changed(full(), func(s *api.Session) { s.Kept[3].Key = some(1, 31) }),
		"a ratchet of 33 bytes":  changed(full(), func(s *api.Session) { s.Kept[19].Ratchet += "\x00" }),
		"41 used":                withUsed(mostUsed + 1),
		"80 used":                withUsed(2 * mostUsed),
		"a used one of 31 bytes": changed(full(), func(s *api.Session) { s.Used[0] = some(1, 31) }),
		"a used one of 33 bytes": changed(full(), func(s *api.Session) { s.Used[39] = some(1, 33) }),
		"a used one of no bytes": changed(full(), func(s *api.Session) { s.Used[20] = "" }),
	}
	for i, name := range []string{"Own", "Root", "Peer", "Send", "Recv"} {
		for _, wrong := range wrongKeys() {
			if wrong != "" || i < 2 { // of the other ones there may be none
				out[fmt.Sprintf("%s of %x", name, wrong)] = changed(full(), func(s *api.Session) { *keysOf(s)[i] = wrong })
			}
		}
	}
	for i, name := range []string{"Sent", "Got", "Prev"} {
		for _, n := range []uint64{limit, limit + 1, 1 << 63, top} {
			out[fmt.Sprintf("%s %d", name, n)] = changed(full(), func(s *api.Session) { *numbersOf(s)[i] = n })
		}
	}
	return out
}

// P14.1: a session that may not be is ErrArg, be what is wrong with it among what is taken, or not; ahead of a wrong number.
func TestTakeOfWrongSessions(t *testing.T) {
	for name, s := range wrongSessions() {
		for _, most := range []int{-1, 0, 1, 31, 32, 33, 40, math.MaxInt, math.MinInt} {
			wantNoTake(t, name, s, most, api.ErrArg)
		}
	}
}

// P14.1: of each number of keys that may be.
func TestFrame(t *testing.T) {
	for many := range mostKeys + 1 {
		f, why := tell(t, 1, 2, 3, keys(400, many))
		if why != api.OK || !frame.Right(f) || f.Kind != api.FReveal {
			t.Errorf("%d keys: %s, error %d", many, toldFrame(f), why)
		}
		wantList(t, fmt.Sprint(many, " keys"), f.Keys, keys(400, many))
	}
	for _, l := range [][]string{nil, {}, {all("\x00")}, {key(1), key(1)}, {key(2), key(1)}, slices.Repeat([]string{all("\xff")}, 32)} {
		if f, why := tell(t, 1, 2, 3, l); why != api.OK || len(f.Keys) != len(l) {
			t.Errorf("%x: %s, error %d", l, toldFrame(f), why)
		}
	}
}

// P14.1: From, To and Id are any, each in its own place; that From is To is not asked.
func TestFrameNumbers(t *testing.T) {
	edges := []uint64{0, 1, 255, 256, limit - 1, limit, 1 << 63, top - 1, top}
	for _, from := range edges {
		for _, to := range edges {
			for _, id := range edges {
				f, why := tell(t, from, to, id, keys(1, 2))
				if why != api.OK || f.From != from || f.To != to || f.Id != id {
					t.Errorf("%d, %d, %d: %s, error %d", from, to, id, toldFrame(f), why)
				}
			}
		}
	}
}

// P14.1: more keys than may be, and keys of wrong sizes, wherever they stand.
func TestWrongFrames(t *testing.T) {
	for _, many := range []int{33, 34, 40, 64, 256, 256 + 32, 65536} {
		wantNoFrame(t, fmt.Sprint(many, " keys"), keys(400, many))
	}
	wantNoFrame(t, "33 keys of no bytes", make([]string, 33))
	for _, wrong := range wrongKeys() {
		wantNoFrame(t, fmt.Sprintf("a key of %d bytes alone", len(wrong)), []string{wrong})
		for _, many := range []int{2, 3, 31, 32, 33} {
			for _, at := range []int{0, 1, many / 2, many - 1} {
				l := keys(400, many)
				l[at] = wrong
				wantNoFrame(t, fmt.Sprintf("a key of %d bytes at %d of %d", len(wrong), at, many), l)
			}
		}
	}
	wantNoFrame(t, "a byte of one is another one's", []string{some(1, 31), some(2, 33)})
}

// P14.1: what is taken may always be told: a frame has as many keys as are taken at once.
func TestTakenIsTold(t *testing.T) {
	for many := range mostUsed + 1 {
		_, l, _ := take(t, withUsed(many), mostKeys)
		f, why := tell(t, 1, 2, 3, l)
		bytes, whyNot := frame.Put(f)
		got, whyNone := frame.Get(bytes)
		if why != api.OK || whyNot != api.OK || whyNone != api.OK || !frame.Like(f, got) {
			t.Errorf("%d used: errors %d, %d, %d", many, why, whyNot, whyNone)
		}
	}
}

// P14.2: the chapter's example.
func TestNoKeys(t *testing.T) {
	for _, f := range kinds() {
		for _, many := range []int{0, 1, 3, 992} {
			g := tagged(key(1), f, some(2, many))
			for _, l := range [][]string{nil, {}} {
				wantCovers(t, "no keys", l, g, false)
				wantNoChange(t, "no keys", l, g, some(3, many), some(4, many), api.ErrNone)
			}
		}
	}
}

// P14.2: what Python told, with its own HMAC and ChaCha20.
func TestTold(t *testing.T) {
	messageKey := rising(1)
	tag := raw(t, "98166f6161223aec5f1a4ad869df2b47023c6cd72cd09151bb16678c904f7cc4")
	f := api.Frame{Kind: api.FText, From: 1, To: 2, Id: 3, Ratchet: all("p"), Prev: 4, N: 300}
	g := api.Frame{Kind: api.FHello, From: top, Id: 70000, Identity: all("i"), Base: all("b"), Signed: 5, Once: 6, Ratchet: all("r")}
	for _, x := range []struct {
		f                     api.Frame
		old, body, other, new string
	}{
		{f, "yes", "0ab11b5e9d247b080cc6520014b5ab302b6afb309315a9ef8390cb392801477e3593af",
			"nay", "1db51140c1b42d841f1949712022175bb8817663e1cc882ebcd1605a68fc6f767993b0"},
		{g, "one of a hello", "1cba0dd850adf19c599a583c9cb0786a0535e0d265146230de2ed4040d51e522c88ddeff94f67e9c1888af73140b",
			"two, as long a", "07a307d41faaa2dd159d5337d0beaf883087d659902447386d39f1180b458f671354791a70171f9e905af6bfadde"},
		{g, "", "846cd6210e7365ebb778af23b1330b7b473e2141616afa7304522640a13ca3e4",
			"", "846cd6210e7365ebb778af23b1330b7b473e2141616afa7304522640a13ca3e4"},
	} {
		sent := changedFrame(x.f, func(f *api.Frame) { f.Body = raw(t, x.body) })
		wantCovers(t, x.old, []string{tag}, sent, true)
		wantCovers(t, x.old+", the message's key", []string{messageKey}, sent, false)
		got := wantChange(t, x.old, []string{tag}, sent, x.old, x.other)
		want(t, x.other, got.Body, raw(t, x.new))
		wantCovers(t, x.other, []string{tag}, got, true)
		back := wantChange(t, "back", []string{tag}, got, x.other, x.old)
		want(t, "back", toldFrame(back), toldFrame(sent))
		head, _ := frame.Head(got)
		if s, why := lock.Open(messageKey, head, got.Body); s != x.other || why != api.OK {
			t.Errorf("%s, opened: %q, error %d", x.other, s, why)
		}
	}
}

// P14.2: Bodies of all sizes at the edges, of both kinds.
func TestBodies(t *testing.T) {
	for _, f := range kinds() {
		for _, many := range []int{0, 1, 2, 15, 16, 30, 31} {
			short := changedFrame(f, func(f *api.Frame) { f.Body = some(1, many) })
			for _, l := range [][]string{nil, {key(1)}, {""}} {
				wantNoCovers(t, fmt.Sprintf("a Body of %d bytes", many), l, short, api.ErrSize)
				wantNoChange(t, fmt.Sprintf("a Body of %d bytes", many), l, short, "", "", api.ErrSize)
			}
		}
		for _, many := range []int{0, 1, 2, 31, 32, 33, 63, 64, 65, 255, 256, 257, 990, 991, 992} {
			old, other := some(2, many), some(3, many)
			g := tagged(key(1), f, some(4, many))
			name := fmt.Sprintf("a Body of %d bytes", len(g.Body))
			wantCovers(t, name, []string{key(1)}, g, true)
			wantCovers(t, name+", another key", []string{key(2)}, g, false)
			wantChange(t, name, []string{key(1)}, g, old, other)
			wantNoChange(t, name+", another key", []string{key(2)}, g, old, other, api.ErrNone)
		}
		for _, many := range []int{993, 994, 1024, 1056, 2048} {
			long := tagged(key(1), f, some(5, many))
			wantNoCovers(t, fmt.Sprintf("a Body of %d bytes", many), []string{key(1)}, long, api.ErrArg)
			wantNoChange(t, fmt.Sprintf("a Body of %d bytes", many), []string{key(1)}, long, some(2, many), some(3, many), api.ErrArg)
		}
	}
}

// P14.2: the covering key as the first, in the middle, as the last, twice and not at all, among few keys and many.
func TestPlacesOfTheKey(t *testing.T) {
	for _, f := range kinds() {
		g := tagged(key(1), f, "abc")
		wanted := tagged(key(1), f, "aXc")
		for _, many := range []int{1, 2, 3, 31, 32, 33, 40, 300} {
			others := keys(1000, many)
			wantCovers(t, fmt.Sprint("none of ", many), others, g, false)
			wantNoChange(t, fmt.Sprint("none of ", many), others, g, "xbx", "xXx", api.ErrNone)
			for _, at := range []int{0, many / 2, many - 1} {
				l := slices.Clone(others)
				l[at] = key(1)
				name := fmt.Sprintf("at %d of %d", at, many)
				wantCovers(t, name, l, g, true)
				want(t, name, toldFrame(wantChange(t, name, l, g, "xbx", "xXx")), toldFrame(wanted))
				l = append(l, key(1), key(2))
				wantCovers(t, name+", and once more", l, g, true)
				want(t, name+", twice", toldFrame(wantChange(t, name, l, g, "xbx", "xXx")), toldFrame(wanted))
			}
		}
	}
}

// P14.2: keys of other sizes count for nothing, also such that HMAC takes for the same key: those that differ from it by bytes 0 at their end.
func TestSizesOfKeys(t *testing.T) {
	for _, covering := range []string{key(1), key(2)[:31] + "\x00", all("\x00")} {
		for _, f := range kinds() {
			g := tagged(covering, f, "abc")
			wrong := append(wrongKeys(), covering[:31], covering+"\x00", covering+all("\x00"), covering+covering, strings.TrimRight(covering, "\x00"), covering[1:], covering+"\x01")
			wrong = slices.DeleteFunc(wrong, func(s string) bool { return len(s) == 32 })
			wantCovers(t, "wrong keys alone", wrong, g, false)
			wantNoChange(t, "wrong keys alone", wrong, g, "abc", "xyz", api.ErrNone)
			for _, w := range wrong {
				name := fmt.Sprintf("a key of %d bytes", len(w))
				wantCovers(t, name+" alone", []string{w}, g, false)
				wantNoChange(t, name+" alone", []string{w}, g, "abc", "xyz", api.ErrNone)
				for _, l := range [][]string{{w, covering}, {covering, w}, {w, w, covering, w}, {w, key(9), covering}} {
					wantCovers(t, name, l, g, true)
					wantChange(t, name, l, g, "abc", "xyz")
				}
			}
		}
	}
}

// P14.2: a key with one bit turned covers nothing.
func TestSpoiltKeys(t *testing.T) {
	for _, f := range kinds() {
		g := tagged(key(1), f, "abc")
		for bit := range 8 * 32 {
			wantCovers(t, fmt.Sprint("bit ", bit), []string{turned(key(1), bit)}, g, false)
		}
	}
}

// P14.2: a Body with one bit turned, ahead of the tag or of it, is not covered; nor is one that was cut, or has a byte more.
func TestSpoiltBodies(t *testing.T) {
	l := keys(1, 3)
	for _, f := range kinds() {
		for _, many := range []int{0, 1, 40} {
			g := tagged(key(2), f, some(1, many))
			for bit := range 8 * len(g.Body) {
				spoilt := changedFrame(g, func(f *api.Frame) { f.Body = turned(f.Body, bit) })
				wantCovers(t, fmt.Sprint("bit ", bit), l, spoilt, false)
				wantNoChange(t, fmt.Sprint("bit ", bit), l, spoilt, some(2, many), some(3, many), api.ErrNone)
			}
			for _, body := range []string{"\x00" + g.Body, g.Body + "\x00", g.Body[:many] + "\x00" + g.Body[many:], g.Body[many:] + g.Body[:many] + "x", some(4, many+32)} {
				wantCovers(t, "bytes more", l, changedFrame(g, func(f *api.Frame) { f.Body = body }), false)
			}
			for i := range many {
				wantCovers(t, "a byte less", l, changedFrame(g, func(f *api.Frame) { f.Body = f.Body[:i] + f.Body[i+1:] }), false)
			}
		}
	}
}

func numbersOfFrame(f *api.Frame) []*uint64 {
	l := []*uint64{&f.From, &f.To, &f.Id, &f.Prev, &f.N}
	if f.Kind == api.FHello {
		l = append(l, &f.Signed, &f.Once)
	}
	return l
}

func pointsOfFrame(f *api.Frame) []*string {
	l := []*string{&f.Ratchet}
	if f.Kind == api.FHello {
		l = append(l, &f.Identity, &f.Base)
	}
	return l
}

// spoiltHeads are frames whose heads differ in one thing each.
func spoiltHeads(f api.Frame) []api.Frame {
	var out []api.Frame
	for i := range numbersOfFrame(&f) {
		for bit := range 64 {
			out = append(out, changedFrame(f, func(f *api.Frame) { *numbersOfFrame(f)[i] ^= 1 << bit }))
		}
	}
	for i := range pointsOfFrame(&f) {
		for bit := range 8 * 32 {
			out = append(out, changedFrame(f, func(f *api.Frame) { *pointsOfFrame(f)[i] = turned(*pointsOfFrame(f)[i], bit) }))
		}
	}
	return append(out,
		changedFrame(f, func(f *api.Frame) { f.From, f.To = f.To, f.From }),
		changedFrame(f, func(f *api.Frame) { f.Prev, f.N = f.N, f.Prev }))
}

// P14.2: a head with one bit turned is not covered; all of it is tagged.
func TestSpoiltHeads(t *testing.T) {
	l := keys(1, 3)
	for _, f := range kinds() {
		for _, many := range []int{0, 3} {
			for _, spoilt := range spoiltHeads(tagged(key(2), f, some(1, many))) {
				wantCovers(t, toldFrame(spoilt), l, spoilt, false)
			}
		}
		spoilt := spoiltHeads(tagged(key(2), f, "abc"))
		for _, g := range spoilt[:20] {
			wantNoChange(t, toldFrame(g), l, g, "abc", "xyz", api.ErrNone)
		}
	}
}

// P14.2: a head ends where its own kind's does: bytes of a Body that stand for those of a head, and the other way round, are not covered. A frame of the other kind isn't, either.
func TestHeadsOfKinds(t *testing.T) {
	first := tagged(key(2), hello(), "abc")
	wantCovers(t, "another kind", keys(1, 3), changedFrame(text(), func(f *api.Frame) { f.Body = first.Body }), false)
	second := tagged(key(2), text(), "abc")
	wantCovers(t, "another kind", keys(1, 3), changedFrame(hello(), func(f *api.Frame) { f.Body = second.Body }), false)
	f := text()
	f.N = 7
	g := text()
	g.N = 0x0761
	moved := tagged(key(2), f, "abc")
	moved.N = g.N
	moved.Body = moved.Body[1:]
	wantCovers(t, "a byte of the Body in the head", keys(1, 3), moved, false)
	noSize := hmac.New(sha256.New, []byte(key(2)))
	noSize.Write([]byte(headOf(f) + "abc"))
	f.Body = "abc" + string(noSize.Sum(nil))
	wantCovers(t, "a tag without the head's size", keys(1, 3), f, false)
}

// wrongFrames are such that may not be, each for one reason, and those of FReveal, which may.
func wrongFrames() map[string]api.Frame {
	reveals := api.Frame{Kind: api.FReveal, From: 1, To: 2, Id: 3}
	out := map[string]api.Frame{
		"of FReveal, no keys":           reveals,
		"of FReveal, 2 keys":            changedFrame(reveals, func(f *api.Frame) { f.Keys = keys(1, 2) }),
		"of FReveal, 32 keys":           changedFrame(reveals, func(f *api.Frame) { f.Keys = keys(1, 32) }),
		"of FReveal, 33 keys":           changedFrame(reveals, func(f *api.Frame) { f.Keys = keys(1, 33) }),
		"of FReveal, with a Body":       changedFrame(text(), func(f *api.Frame) { f.Kind = api.FReveal }),
		"of FText, with keys":           changedFrame(text(), func(f *api.Frame) { f.Keys = keys(1, 1) }),
		"of FText, with a key of none":  changedFrame(text(), func(f *api.Frame) { f.Keys = []string{""} }),
		"of FText, with an Identity":    changedFrame(text(), func(f *api.Frame) { f.Identity = key(1) }),
		"of FText, with a Base":         changedFrame(text(), func(f *api.Frame) { f.Base = key(1) }),
		"of FText, with Signed":         changedFrame(text(), func(f *api.Frame) { f.Signed = 1 }),
		"of FText, with Once":           changedFrame(text(), func(f *api.Frame) { f.Once = top }),
		"of FHello, with keys":          changedFrame(hello(), func(f *api.Frame) { f.Keys = keys(1, 32) }),
		"of nothing but FHello":         {},
		"of nothing but FText":          {Kind: api.FText},
		"of FHello, but of FText's":     changedFrame(text(), func(f *api.Frame) { f.Kind = api.FHello }),
		"of FText, but of FHello's":     changedFrame(hello(), func(f *api.Frame) { f.Kind = api.FText }),
		"of FReveal, but of FHello's":   changedFrame(hello(), func(f *api.Frame) { f.Kind = api.FReveal }),
		"of FHello, Body of 1025 bytes": changedFrame(hello(), func(f *api.Frame) { f.Body = some(1, mostBody+1) }),
		"of FText, Body of 1025 bytes":  changedFrame(text(), func(f *api.Frame) { f.Body = some(1, mostBody+1) }),
	}
	for _, kind := range []int{-1, 3, 4, 255, 256, 257, 1 << 32, 1<<32 + 1, math.MaxInt, math.MinInt} {
		out[fmt.Sprint("of kind ", kind)] = changedFrame(text(), func(f *api.Frame) { f.Kind = kind })
	}
	for i, name := range []string{"Ratchet", "Identity", "Base"} {
		for _, wrong := range wrongKeys() {
			out[fmt.Sprintf("of FHello, %s %x", name, wrong)] = changedFrame(hello(), func(f *api.Frame) { *pointsOfFrame(f)[i] = wrong })
			out[fmt.Sprintf("of FText, Ratchet %x", wrong)] = changedFrame(text(), func(f *api.Frame) { f.Ratchet = wrong })
		}
	}
	return out
}

// P14.2: frames that may not be, or are of FReveal, are ErrArg, ahead of all else: with a Body that is too short, one that is covered, and one that isn't.
func TestWrongFramesOfTexts(t *testing.T) {
	for name, f := range wrongFrames() {
		bodies := []string{f.Body, tagged(key(2), f, "abc").Body, some(1, 31)}
		if f.Kind == api.FReveal && rightFrame(f) || len(f.Body) > mostBody {
			bodies = bodies[:1]
		}
		for _, body := range bodies {
			f.Body = body
			for _, l := range [][]string{nil, keys(1, 3), {"short"}} {
				wantNoCovers(t, name, l, f, api.ErrArg)
				wantNoChange(t, name, l, f, "abc", "xyz", api.ErrArg)
				wantNoChange(t, name+", texts of other sizes", l, f, "", "x", api.ErrArg)
			}
		}
	}
}

// P14.2: texts that are too short, or too long, the one, the other, or both; also both by as much.
func TestSizesOfTexts(t *testing.T) {
	for _, f := range kinds() {
		for _, many := range []int{0, 1, 3, 31, 32, 991, 992} {
			g := tagged(key(1), f, some(1, many))
			for _, a := range []int{0, many - 1, many, many + 1, many + 32, 256 + many} {
				for _, b := range []int{0, many - 1, many, many + 1, many + 32, 256 + many} {
					if a == many && b == many || a < 0 || b < 0 {
						continue
					}
					wantNoChange(t, fmt.Sprintf("texts of %d and %d bytes in place of %d", a, b, many), []string{key(1)}, g, some(2, a), some(3, b), api.ErrSize)
				}
			}
			wantChange(t, fmt.Sprint(many, " bytes"), []string{key(1)}, g, some(2, many), some(3, many))
		}
	}
}

// P14.2: all but the Body stays, of which the bytes differ where the texts do; the same texts leave the frame; there and back it is as it was.
func TestChange(t *testing.T) {
	for _, f := range kinds() {
		for _, many := range []int{0, 1, 2, 33, 500, 992} {
			hidden, old, other := some(1, many), some(2, many), some(3, many)
			l := keys(1, 3)
			g := tagged(key(3), f, hidden)
			want(t, "the same text", toldFrame(wantChange(t, "the same", l, g, old, old)), toldFrame(g))
			want(t, "the same other text", toldFrame(wantChange(t, "the same", l, g, other, other)), toldFrame(g))
			there := wantChange(t, "there", l, g, old, other)
			want(t, "but for the Body", toldFrame(changedFrame(there, func(f *api.Frame) { f.Body = g.Body })), toldFrame(g))
			want(t, "the other way round", toldFrame(wantChange(t, "there", l, g, other, old)), toldFrame(there))
			want(t, "back", toldFrame(wantChange(t, "back", l, there, other, old)), toldFrame(g))
			want(t, "the same twice", toldFrame(wantChange(t, "twice", l, there, old, other)), toldFrame(g))
			if many > 0 && there.Body[many:] == g.Body[many:] {
				t.Error("the tag is the same")
			}
			for i := range many {
				if there.Body[i] != hidden[i]^old[i]^other[i] {
					t.Fatalf("byte %d is %d", i, there.Body[i])
				}
			}
			wantCovers(t, "the same keys", l, there, true)
			wantCovers(t, "all but the one", keys(1, 2), there, false)
		}
	}
}

// P14.2: a text of one byte, of each, in place of each: what was sealed isn't asked.
func TestEachByte(t *testing.T) {
	g := tagged(key(1), text(), "h")
	for old := range 256 {
		for _, other := range []int{0, 1, 'h', 127, 128, 255} {
			got := wantChange(t, "a byte", []string{key(1)}, g, string([]byte{byte(old)}), string([]byte{byte(other)}))
			if got.Body[0] != 'h'^byte(old)^byte(other) {
				t.Errorf("%d, %d: %d", old, other, got.Body[0])
			}
		}
	}
}

// P14.2: what a text has besides ASCII counts by its bytes, not by its runes.
func TestBytesNotRunes(t *testing.T) {
	g := tagged(key(1), text(), "\xc3\xa9\xff\x00")
	got := wantChange(t, "bytes", []string{key(1)}, g, "\xc3\xa9\xff\x00", "\xe2\x82\xac\x80")
	want(t, "bytes", got.Body[:4], "\xe2\x82\xac\x80")
	wantNoChange(t, "as many runes", []string{key(1)}, g, "\u00e9\u00e9\u00e9\u00e9", "\u00e9\u00e9\u00e9\u00e9", api.ErrSize)
}

// P14.2: several errors at once: the first one in the chapter's order is told.
func TestOrderOfErrors(t *testing.T) {
	for _, f := range kinds() {
		faults := []struct {
			name string
			why  api.Errno
			do   func(l *[]string, f *api.Frame, old, other *string)
		}{
			{"a wrong frame", api.ErrArg, func(_ *[]string, f *api.Frame, _, _ *string) { f.Ratchet += "\x00" }},
			{"a short Body", api.ErrSize, func(_ *[]string, f *api.Frame, _, _ *string) { f.Body = f.Body[:31] }},
			{"no key", api.ErrNone, func(l *[]string, _ *api.Frame, _, _ *string) { *l = (*l)[:2] }},
			{"a long old text", api.ErrSize, func(_ *[]string, _ *api.Frame, old, _ *string) { *old += "x" }},
			{"a short other text", api.ErrSize, func(_ *[]string, _ *api.Frame, _, other *string) { *other = (*other)[1:] }},
		}
		for set := range 1 << len(faults) {
			l, g, old, other := keys(1, 3), tagged(key(3), f, "abc"), "abc", "xyz"
			wanted, name := api.OK, ""
			for i, x := range faults {
				if set>>i&1 == 0 {
					continue
				}
				x.do(&l, &g, &old, &other)
				name += x.name + ", "
				if wanted == api.OK {
					wanted = x.why
				}
			}
			if set == 0 {
				wantChange(t, "no fault", l, g, old, other)
				continue
			}
			wantNoChange(t, name, l, g, old, other, wanted)
			if set&3 != 0 {
				wantNoCovers(t, name, l, g, wanted)
			} else {
				wantCovers(t, name, l, g, set&4 == 0)
			}
		}
	}
}

// two are the sessions of who begins, and of who is asked.
func two(t *testing.T) (api.Session, api.Session) {
	t.Helper()
	point, _ := ladder.Base(key(11))
	a, why := session.Start(key(10), point, key(12))
	b, whyAsked := session.Accept(key(10), key(11))
	if why != api.OK || whyAsked != api.OK {
		t.Fatalf("errors %d, %d", why, whyAsked)
	}
	return a, b
}

// bare are frames as a session is handed them.
func bare() []api.Frame {
	l := kinds()
	for i := range l {
		l[i].Ratchet, l[i].Prev, l[i].N = "", 0, 0
	}
	return l
}

func seal(t *testing.T, s api.Session, f api.Frame, text string) (api.Session, api.Frame) {
	t.Helper()
	next, out, why := session.Seal(s, f, text)
	if why != api.OK {
		t.Fatalf("%q: error %d", text, why)
	}
	return next, out
}

func open(t *testing.T, s api.Session, f api.Frame, fresh, wanted string) api.Session {
	t.Helper()
	next, got, why := session.Open(s, f, fresh)
	if why != api.OK || got != wanted {
		t.Fatalf("%.100q, error %d; wanted %.100q", got, why, wanted)
	}
	return next
}

// P14.3: a key that a session tells covers the frame that it opened by it, and no other one; in order, and out of it; and by it the frame is that of any other text, as who sealed it would have sealed that.
func TestKeysOfSessions(t *testing.T) {
	order := []int{0, 2, 1, 6, 5, 4, 3, 7}
	a, b := two(t)
	var sent, instead []api.Frame
	for i := range order {
		f := bare()[i%2]
		_, other := seal(t, a, f, fmt.Sprint("nay ", i))
		next, g := seal(t, a, f, fmt.Sprint("yes ", i))
		a, sent, instead = next, append(sent, g), append(instead, other)
	}
	for _, i := range order {
		ahead := b
		b = open(t, b, sent[i], key(13), fmt.Sprint("yes ", i))
		forged := wantChange(t, fmt.Sprint(i), b.Used, sent[i], fmt.Sprint("yes ", i), fmt.Sprint("nay ", i))
		want(t, "the other text, sealed", toldFrame(forged), toldFrame(instead[i]))
		open(t, ahead, forged, key(13), fmt.Sprint("nay ", i))
		wantCovers(t, "what was changed", b.Used, forged, true)
		wantNoChange(t, "ahead of it", ahead.Used, sent[i], "yes 0", "nay 0", api.ErrNone)
	}
	_, l, _ := take(t, b, mostKeys)
	for i, k := range l {
		for j, g := range sent {
			wantCovers(t, fmt.Sprintf("key %d, frame %d", i, j), []string{k}, g, j == order[i])
			wantCovers(t, "all", l, g, true)
			wantCovers(t, "all that were taken ahead", l[:i], g, slices.Index(order, j) < i)
		}
	}
}

// P14.3: texts of all sizes that may be sealed, changed to any; those who write turn their ratchets meanwhile.
func TestTextsOfSessions(t *testing.T) {
	s := [2]api.Session{}
	s[0], s[1] = two(t)
	for i, many := range []int{0, 1, 2, 31, 32, 33, 256, 991, 992} {
		who := i % 2
		old, other := some(int64(i), many), some(int64(100+i), many)
		next, f := seal(t, s[who], bare()[i/2%2], old)
		ahead := s[1-who]
		s[who], s[1-who] = next, open(t, s[1-who], f, key(20+i), old)
		left, l, _ := take(t, s[1-who], mostKeys)
		forged := wantChange(t, fmt.Sprint(many, " bytes"), l, f, old, other)
		open(t, ahead, forged, key(20+i), other)
		wantCovers(t, "the last one", l[len(l)-1:], f, true)
		if len(left.Used) != 0 {
			t.Errorf("%d used", len(left.Used))
		}
		s[1-who] = left
	}
}

// P14.3: behind 40 keys the first one went: what it covers is not covered by what is told.
func TestKeysThatWent(t *testing.T) {
	a, b := two(t)
	var sent []api.Frame
	for i := range mostUsed + 2 {
		next, f := seal(t, a, bare()[1], "text")
		a, b, sent = next, open(t, b, f, key(20+i), "text"), append(sent, f)
	}
	left, first, _ := take(t, b, mostKeys)
	none, rest, _ := take(t, left, mostKeys)
	l := append(slices.Clone(first), rest...)
	if len(first) != mostKeys || len(rest) != mostUsed-mostKeys || len(none.Used) != 0 {
		t.Fatalf("%d and %d keys", len(first), len(rest))
	}
	for i, f := range sent {
		wantCovers(t, fmt.Sprint("frame ", i), l, f, i >= 2)
		wantCovers(t, fmt.Sprint("first ones, frame ", i), first, f, i >= 2 && i < 2+mostKeys)
	}
}

// P14.3: who opened a frame doesn't open it again, changed or not.
func TestOpenedOnce(t *testing.T) {
	a, b := two(t)
	_, f := seal(t, a, bare()[0], "yes")
	b = open(t, b, f, key(13), "yes")
	forged := wantChange(t, "yes", b.Used, f, "yes", "nay")
	if _, _, why := session.Open(b, forged, key(14)); why != api.ErrOld {
		t.Errorf("error %d", why)
	}
}

// anyKeys are few or many keys without a rule, some of wrong sizes, some of those that may cover.
func anyKeys(r *rand.Rand) []string {
	var out []string
	for range r.Intn(8) {
		switch r.Intn(4) {
		case 0:
			out = append(out, some(r.Int63(), 30+r.Intn(5)))
		default:
			out = append(out, key(r.Intn(6)))
		}
	}
	return out
}

// anyFrame is one without a rule, that is covered by a key more often than not.
func anyFrame(r *rand.Rand) (api.Frame, int) {
	f := kinds()[r.Intn(2)]
	f.From, f.Id, f.N = r.Uint64()>>r.Intn(64), r.Uint64()>>r.Intn(64), r.Uint64()>>r.Intn(64)
	many := r.Intn(40)
	f = tagged(key(r.Intn(6)), f, some(r.Int63(), many))
	switch r.Intn(12) {
	case 0:
		f.Body = turned(f.Body, r.Intn(8*len(f.Body)))
	case 1:
		f.Body = f.Body[:r.Intn(len(f.Body))]
	case 2:
		f.To ^= 1 << r.Intn(64)
	case 3:
		f.Kind = r.Intn(5) - 1
	}
	return f, many
}

// P14.2: keys and frames without a rule are as the words say.
func TestAnyCalls(t *testing.T) {
	r := rand.New(rand.NewSource(14))
	found := map[api.Errno]int{}
	for range 3000 {
		f, many := anyFrame(r)
		l := anyKeys(r)
		a, b := many, many
		if r.Intn(6) == 0 {
			a, b = a+r.Intn(2), b+r.Intn(2)
		}
		covers(t, l, f)
		_, why := change(t, l, f, some(r.Int63(), a), some(r.Int63(), b))
		found[why]++
	}
	for _, why := range []api.Errno{api.OK, api.ErrArg, api.ErrSize, api.ErrNone} {
		if found[why] < 100 {
			t.Errorf("error %d: %d times", why, found[why])
		}
	}
}

// roomy is a session whose lists have room behind their ends, in which there are others, and all of these.
func roomy(s api.Session) (api.Session, []api.Kept, []string) {
	kept := append(slices.Clone(s.Kept), table(40)[30:]...)
	used := append(slices.Clone(s.Used), keys(600, 50)...)
	s.Kept, s.Used = kept[:len(s.Kept)], used[:len(s.Used)]
	return s, kept, used
}

func toldLists(kept []api.Kept, used []string) string {
	return told(api.Session{Kept: kept, Used: used})
}

// spoil changes all that a list has, with its room.
func spoil(l []string) {
	for i := range l[:cap(l)] {
		l[:cap(l)][i] = "changed"
	}
}

func spoilKept(l []api.Kept) {
	for i := range l[:cap(l)] {
		l[:cap(l)][i] = api.Kept{Ratchet: "changed"}
	}
}

// R4: Take changes nothing of what it was handed, nor behind its ends; what is done with an answer is not to be seen there, nor in the other list of it.
func TestTakeSharesNothing(t *testing.T) {
	for _, many := range []int{0, 1, 2, 31, 32, 33, 40} {
		for _, most := range []int{-1, 0, 1, 2, 31, 32, 33} {
			s, kept, used := roomy(withUsed(many))
			before := toldLists(kept, used)
			next, l, why := take(t, s, most)
			want(t, "the lists, with their room", toldLists(kept, used), before)
			if why != api.OK {
				continue
			}
			first, second := told(next), slices.Clone(l)
			spoil(l)
			want(t, "the session that was told", told(next), first)
			want(t, "the lists", toldLists(kept, used), before)
			again, other, _ := take(t, s, most)
			spoil(next.Used)
			spoilKept(next.Kept)
			want(t, "the lists", toldLists(kept, used), before)
			spoil(used)
			spoilKept(kept)
			want(t, "another session", told(again), first)
			wantList(t, "other keys", other, second)
			spoil(again.Used)
			wantList(t, "other keys", other, second)
		}
	}
}

// R4: the same of Frame.
func TestFrameSharesNothing(t *testing.T) {
	for _, many := range []int{0, 1, 2, 31, 32, 33} {
		room := keys(400, 40)
		before := slices.Clone(room)
		f, why := tell(t, 1, 2, 3, room[:many])
		wantList(t, "the keys, with their room", room, before)
		again, _ := tell(t, 1, 2, 3, room[:many])
		spoil(f.Keys)
		wantList(t, "the keys", room, before)
		spoil(room)
		if why == api.OK {
			wantList(t, "another frame's keys", again.Keys, before[:many])
		}
	}
}

// R4: the same of Covers and Change; a list of no keys, with room behind it, is not the answer's.
func TestChangeSharesNothing(t *testing.T) {
	for _, f := range kinds() {
		for _, many := range []int{0, 2, 3} {
			room := keys(1, 8)
			before := slices.Clone(room)
			frameRoom := keys(700, 4)
			f.Keys = frameRoom[:0]
			g := tagged(key(3), f, "abc")
			covers(t, room[:many], g)
			got, _ := change(t, room[:many], g, "abc", "xyz")
			same, _ := change(t, room[:many], g, "abc", "abc")
			spoil(got.Keys)
			spoil(same.Keys)
			wantList(t, "the keys, with their room", room, before)
			wantList(t, "the frame's, with their room", frameRoom, keys(700, 4))
		}
	}
}

// R1: no answer hangs on a call ahead of it.
func TestNothingIsKept(t *testing.T) {
	r := rand.New(rand.NewSource(15))
	var calls []func() string
	for range 60 {
		f, many := anyFrame(r)
		l, old, other := anyKeys(r), some(r.Int63(), many), some(r.Int63(), many)
		s, most := withUsed(r.Intn(42)), r.Intn(36)-1
		calls = append(calls, func() string {
			is, why := reveal.Covers(l, f)
			g, whyNot := reveal.Change(l, f, old, other)
			next, taken, whyNone := reveal.Take(s, most)
			h, whyNever := reveal.Frame(1, 2, uint64(many), l)
			return fmt.Sprint(is, why, toldFrame(g), whyNot, told(next), taken, whyNone, toldFrame(h), whyNever)
		})
	}
	answers := func() []string {
		var out []string
		for _, call := range calls {
			out = append(out, call())
		}
		return out
	}
	wanted := answers()
	slices.Reverse(calls)
	again := answers()
	slices.Reverse(again)
	wantList(t, "answers in another order", again, wanted)
}

// P1: at arguments of nothing none panics.
func TestNothingAtAll(t *testing.T) {
	wantNoTake(t, "nothing", api.Session{}, 0, api.ErrArg)
	wantNoCovers(t, "nothing", nil, api.Frame{}, api.ErrArg)
	wantNoChange(t, "nothing", nil, api.Frame{}, "", "", api.ErrArg)
	if f, why := tell(t, 0, 0, 0, nil); why != api.OK || toldFrame(f) != toldFrame(api.Frame{Kind: api.FReveal}) {
		t.Errorf("Frame of nothing: %s, error %d", toldFrame(f), why)
	}
}

func FuzzAll(f *testing.F) {
	f.Add(int64(1), "yes", "nay", "abc", key(1), byte(0))
	f.Add(int64(2), "", "", "", key(2), byte(1))
	f.Add(int64(3), "y", "", strings.Repeat("b", 992), strings.Repeat("k", 31), byte(6))
	f.Add(int64(4), "yes", "nay", strings.Repeat("b", 993), key(3)+"\x00", byte(255))
	f.Fuzz(func(t *testing.T, seed int64, old, other, hidden, k string, how byte) {
		r := rand.New(rand.NewSource(seed))
		g := kinds()[how&1]
		g.From, g.To, g.Id, g.Prev, g.N = r.Uint64()>>r.Intn(64), r.Uint64(), r.Uint64(), r.Uint64(), r.Uint64()>>r.Intn(64)
		g.Body = hidden
		if how&2 == 0 {
			g = tagged(k, g, hidden)
		}
		if how&4 != 0 {
			g.Ratchet = k
		}
		g.Kind += int(how >> 6)
		l := append(anyKeys(r), k)
		covers(t, l, g)
		change(t, l, g, old, other)
		if len(old) == len(other) {
			change(t, l, tagged(key(1), kinds()[how&1], other), old, other)
			change(t, append(l, key(1)), tagged(key(1), kinds()[how&1], other), old, other)
		}
		s := withUsed(int(how) % 50)
		s.Used = append(s.Used, l[len(l)-int(how&1):]...)
		take(t, s, int(how>>2)-1)
		tell(t, g.From, g.To, g.Id, l)
		tell(t, g.From, g.To, g.Id, s.Used)
	})
}

func BenchmarkChange(b *testing.B) {
	f := tagged(key(31), text(), "yes")
	l := keys(0, mostKeys)
	for range b.N {
		reveal.Change(l, f, "yes", "nay")
	}
}

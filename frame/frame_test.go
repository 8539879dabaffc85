package frame_test

import (
	"fmt"
	"math"
	"math/big"
	"math/rand"
	"slices"
	"strings"
	"testing"

	"demurral/api"
	"demurral/frame"
)

const (
	size    = 32
	maxText = 1024
	maxKeys = 32
	top     = 1<<64 - 1
)

// some are bytes without a rule, the same at every run.
func some(seed int64, many int) string {
	b := make([]byte, many)
	rand.New(rand.NewSource(seed)).Read(b)
	return string(b)
}

func point(seed int64) string { return some(seed, size) }

func points(many int) []string {
	var out []string
	for i := range many {
		out = append(out, point(int64(2000+i)))
	}
	return out
}

// turned is the text with one bit of it turned.
func turned(s string, bit int) string {
	b := []byte(s)
	b[bit/8] ^= 1 << (bit % 8)
	return string(b)
}

// hello, text and reveal are ordinary frames, of which no two fields are the same.
func hello() api.Frame {
	return api.Frame{Kind: api.FHello, From: 11, To: 12, Id: 13, Identity: point(1), Base: point(2), Signed: 14, Once: 15, Ratchet: point(3), Prev: 16, N: 17, Body: some(4, 40)}
}

func text() api.Frame {
	return api.Frame{Kind: api.FText, From: 21, To: 22, Id: 23, Ratchet: point(5), Prev: 24, N: 25, Body: some(6, 50)}
}

func reveal() api.Frame {
	return api.Frame{Kind: api.FReveal, From: 31, To: 32, Id: 33, Keys: points(3)}
}

func ordinary() []api.Frame { return []api.Frame{hello(), text(), reveal()} }

// changed is the frame, changed; its Keys are a list of its own.
func changed(f api.Frame, change func(*api.Frame)) api.Frame {
	f.Keys = slices.Clone(f.Keys)
	change(&f)
	return f
}

// numbers are where a frame's numbers stand, those that each Kind has ahead of the others.
func numbers(f *api.Frame) []*uint64 {
	return []*uint64{&f.From, &f.To, &f.Id, &f.Prev, &f.N, &f.Signed, &f.Once}
}

// manyNumbers are how many of numbers a Kind has.
func manyNumbers(kind int) int { return []int{7, 5, 3}[kind] }

// texts are where a frame's texts stand, those that each Kind has ahead of the others.
func texts(f *api.Frame) []*string {
	return []*string{&f.Ratchet, &f.Body, &f.Identity, &f.Base}
}

func manyTexts(kind int) int { return []int{4, 2, 0}[kind] }

// edges are the numbers that the chapter names, and those by which a number comes to a byte more.
func edges() []uint64 {
	out := []uint64{0, 1, 2, 32, 127, 128, 1<<31 - 1, 1 << 31, 1<<63 - 1, 1 << 63, top - 1, top}
	for bit := 8; bit < 64; bit += 8 {
		n := uint64(1) << bit
		out = append(out, n-1, n, n+1)
	}
	return out
}

func bodySizes() []int {
	return []int{0, 1, 2, 31, 32, 33, 127, 128, 255, 256, 257, 511, 512, 1000, 1022, 1023, maxText}
}

// What follows, up to gotByTheWords, is the chapter's words, without package wire.
func numberByTheWords(n uint64) string {
	b := new(big.Int).SetUint64(n).Bytes()
	return string([]byte{byte(len(b))}) + string(b)
}

func textByTheWords(s string) string { return numberByTheWords(uint64(len(s))) + s }

func headByTheWords(f api.Frame) string {
	n, s := numberByTheWords, textByTheWords
	out := n(uint64(f.Kind)) + n(f.From) + n(f.To) + n(f.Id)
	switch f.Kind {
	case 0:
		return out + s(f.Identity) + s(f.Base) + n(f.Signed) + n(f.Once) + s(f.Ratchet) + n(f.Prev) + n(f.N)
	case 1:
		return out + s(f.Ratchet) + n(f.Prev) + n(f.N)
	}
	return out
}

func bytesByTheWords(f api.Frame) string {
	if f.Kind != 2 {
		return headByTheWords(f) + textByTheWords(f.Body)
	}
	out := headByTheWords(f) + numberByTheWords(uint64(len(f.Keys)))
	for _, k := range f.Keys {
		out += textByTheWords(k)
	}
	return out
}

func rightByTheWords(f api.Frame) bool {
	switch f.Kind {
	case 0:
		return len(f.Identity) == 32 && len(f.Base) == 32 && len(f.Ratchet) == 32 && len(f.Body) <= 1024 && len(f.Keys) == 0
	case 1:
		return len(f.Ratchet) == 32 && len(f.Body) <= 1024 && len(f.Keys) == 0 && f.Identity == "" && f.Base == "" && f.Signed == 0 && f.Once == 0
	case 2:
		for _, k := range f.Keys {
			if len(k) != 32 {
				return false
			}
		}
		return len(f.Keys) <= 32 && f.Identity == "" && f.Base == "" && f.Ratchet == "" && f.Body == "" && f.Signed == 0 && f.Once == 0 && f.Prev == 0 && f.N == 0
	}
	return false
}

// loose reads numbers and texts in whatever form they stand, and what is missing as nothing: gotByTheWords puts the frame again and sees then.
type loose string

func (l *loose) number() uint64 {
	s := string(*l)
	if s == "" {
		return 0
	}
	many := min(int(s[0]), len(s)-1)
	*l = loose(s[1+many:])
	return new(big.Int).SetBytes([]byte(s[1 : 1+many])).Uint64()
}

func (l *loose) text() string {
	many := min(l.number(), uint64(len(*l)))
	s := string(*l)
	*l = loose(s[many:])
	return s[:many]
}

func gotByTheWords(s string) (api.Frame, api.Errno) {
	l := loose(s)
	f := api.Frame{Kind: int(min(l.number(), 3)), From: l.number(), To: l.number(), Id: l.number()}
	switch f.Kind {
	case 0:
		f.Identity, f.Base, f.Signed, f.Once, f.Ratchet, f.Prev, f.N, f.Body = l.text(), l.text(), l.number(), l.number(), l.text(), l.number(), l.number(), l.text()
	case 1:
		f.Ratchet, f.Prev, f.N, f.Body = l.text(), l.number(), l.number(), l.text()
	case 2:
		for range min(l.number(), 33) {
			f.Keys = append(f.Keys, l.text())
		}
	}
	if !rightByTheWords(f) || bytesByTheWords(f) != s {
		return api.Frame{}, api.ErrSyntax
	}
	return f, api.OK
}

// same holds all of two frames against each other.
func same(a, b api.Frame) bool {
	alike := slices.Equal(a.Keys, b.Keys) && a.Kind == b.Kind
	for i := range numbers(&a) {
		alike = alike && *numbers(&a)[i] == *numbers(&b)[i]
	}
	for i := range texts(&a) {
		alike = alike && *texts(&a)[i] == *texts(&b)[i]
	}
	return alike
}

// told is a frame as far as a line holds it.
func told(f api.Frame) string {
	s := fmt.Sprintf("%#v", f)
	return s[:min(len(s), 700)]
}

func wantBytes(t *testing.T, what, got, wanted string) {
	t.Helper()
	if got != wanted {
		t.Errorf("%s: %.200x; wanted %.200x", what, got, wanted)
	}
}

// put asks for the frame's bytes and head, and that it may be.
func put(t *testing.T, f api.Frame) (string, string) {
	t.Helper()
	s, why := frame.Put(f)
	head, whyHead := frame.Head(f)
	if why != api.OK || whyHead != api.OK || !frame.Right(f) {
		t.Fatalf("%s: Put's error %d, Head's %d; may it be: %v", told(f), why, whyHead, frame.Right(f))
	}
	return s, head
}

func wantFrame(t *testing.T, s string, wanted api.Frame) {
	t.Helper()
	f, why := frame.Get(s)
	if why != api.OK || !same(f, wanted) || !frame.Like(f, wanted) {
		t.Errorf("%.200x: %s, error %d; wanted %s", s, told(f), why, told(wanted))
	}
}

// wantWhole asks for all that is promised of a frame that may be.
func wantWhole(t *testing.T, f api.Frame) {
	t.Helper()
	s, head := put(t, f)
	wantBytes(t, "Put", s, bytesByTheWords(f))
	wantBytes(t, "Head", head, headByTheWords(f))
	if !strings.HasPrefix(s, head) || len(head) == len(s) {
		t.Errorf("%s: its bytes are %.200x, its head %.200x", told(f), s, head)
	}
	wantFrame(t, s, f)
}

func wantWrong(t *testing.T, what string, f api.Frame) {
	t.Helper()
	s, why := frame.Put(f)
	head, whyHead := frame.Head(f)
	if s != "" || why != api.ErrArg || head != "" || whyHead != api.ErrArg || frame.Right(f) {
		t.Errorf("%s: Put: %d bytes, error %d; Head: %d bytes, error %d; may it be: %v", what, len(s), why, len(head), whyHead, frame.Right(f))
	}
}

func wantNone(t *testing.T, what, s string) {
	t.Helper()
	f, why := frame.Get(s)
	if !same(f, api.Frame{}) || why != api.ErrSyntax {
		t.Errorf("%s: %.200x: %s, error %d; wanted error %d", what, s, told(f), why, api.ErrSyntax)
	}
}

func wantAsByTheWords(t *testing.T, s string) {
	t.Helper()
	wanted, why := gotByTheWords(s)
	if why != api.OK {
		wantNone(t, "Get", s)
		return
	}
	wantFrame(t, s, wanted)
	again, _ := put(t, wanted)
	wantBytes(t, "what is got, put", again, s)
}

// withNumbers are frames of which one number is an edge, and those of which all are.
func withNumbers(f api.Frame) []api.Frame {
	var out []api.Frame
	for _, n := range edges() {
		all := f
		for i := range manyNumbers(f.Kind) {
			out = append(out, changed(f, func(g *api.Frame) { *numbers(g)[i] = n }))
			*numbers(&all)[i] = n
		}
		out = append(out, all)
	}
	return out
}

func withBodies(f api.Frame) []api.Frame {
	var out []api.Frame
	for _, many := range bodySizes() {
		for _, body := range []string{some(int64(many), many), strings.Repeat("\x00", many), strings.Repeat("\xff", many), strings.Repeat("é", many)[:many]} {
			out = append(out, changed(f, func(g *api.Frame) { g.Body = body }))
		}
	}
	return out
}

// withPoints are frames of which one key or point, or all, are of bytes that look as a size, or as nothing.
func withPoints(f api.Frame) []api.Frame {
	var out []api.Frame
	for _, fill := range []string{"\x00", "\x01", "\x20", "\xff"} {
		p := strings.Repeat(fill, size)
		all := changed(f, func(g *api.Frame) {
			for i := range g.Keys {
				g.Keys[i] = p
			}
		})
		for i := range texts(&f) {
			if i < manyTexts(f.Kind) {
				out = append(out, changed(f, func(g *api.Frame) { *texts(g)[i] = p }))
				*texts(&all)[i] = p
			}
		}
		out = append(out, all)
	}
	return out
}

func withKeys(f api.Frame) []api.Frame {
	var out []api.Frame
	for many := range maxKeys + 1 {
		for _, l := range [][]string{points(many), slices.Repeat([]string{point(7)}, many)} {
			out = append(out, changed(f, func(g *api.Frame) { g.Keys = l }))
		}
	}
	return out
}

// random is a frame that may be.
func random(r *rand.Rand) api.Frame {
	f := api.Frame{Kind: r.Intn(3)}
	for i := range manyNumbers(f.Kind) {
		*numbers(&f)[i] = r.Uint64() >> r.Intn(64) >> r.Intn(2)
	}
	for i := range manyTexts(f.Kind) {
		*texts(&f)[i] = point(r.Int63())
	}
	if f.Kind == api.FReveal {
		f.Keys = points(r.Intn(maxKeys + 1))
	} else {
		f.Body = some(r.Int63(), r.Intn(maxText+1)>>r.Intn(11))
	}
	return f
}

// frames are such that may be: ordinary ones, and with the edges that the chapter names.
func frames() []api.Frame {
	var out []api.Frame
	for _, f := range ordinary() {
		out = append(out, f)
		out = append(out, withNumbers(f)...)
		out = append(out, withPoints(f)...)
	}
	out = append(out, withBodies(hello())...)
	out = append(out, withBodies(text())...)
	out = append(out, withKeys(reveal())...)
	out = append(out, api.Frame{Kind: api.FReveal})
	r := rand.New(rand.NewSource(1))
	for range 600 {
		out = append(out, random(r))
	}
	return out
}

// P8.1, P8.2: the chapter's, and others by hand.
func TestExamples(t *testing.T) {
	p, q, r := strings.Repeat("p", size), strings.Repeat("q", size), strings.Repeat("r", size)
	for _, x := range []struct {
		f          api.Frame
		head, rest string
	}{
		{api.Frame{Kind: api.FReveal, From: 1, To: 2, Id: 3}, "\x01\x02\x01\x01\x01\x02\x01\x03", "\x00"},
		{api.Frame{Kind: api.FReveal}, "\x01\x02\x00\x00\x00", "\x00"},
		{api.Frame{Kind: api.FReveal, From: 258, Keys: []string{p, q}}, "\x01\x02\x02\x01\x02\x00\x00", "\x01\x02\x01\x20" + p + "\x01\x20" + q},
		{api.Frame{Kind: api.FText, Ratchet: p}, "\x01\x01\x00\x00\x00\x01\x20" + p + "\x00\x00", "\x00"},
		{
			api.Frame{Kind: api.FText, From: 1, To: 2, Id: top, Ratchet: p, Prev: 4, N: 5, Body: "body"},
			"\x01\x01\x01\x01\x01\x02\x08\xff\xff\xff\xff\xff\xff\xff\xff\x01\x20" + p + "\x01\x04\x01\x05", "\x01\x04body",
		},
		{api.Frame{Kind: api.FHello, Identity: p, Base: q, Ratchet: r}, "\x00\x00\x00\x00\x01\x20" + p + "\x01\x20" + q + "\x00\x00\x01\x20" + r + "\x00\x00", "\x00"},
		{
			api.Frame{Kind: api.FHello, From: 1, To: 2, Id: 3, Identity: p, Base: q, Signed: 4, Once: 5, Ratchet: r, Prev: 6, N: 7, Body: strings.Repeat("b", maxText)},
			"\x00\x01\x01\x01\x02\x01\x03\x01\x20" + p + "\x01\x20" + q + "\x01\x04\x01\x05\x01\x20" + r + "\x01\x06\x01\x07", "\x02\x04\x00" + strings.Repeat("b", maxText),
		},
	} {
		s, head := put(t, x.f)
		wantBytes(t, "Put", s, x.head+x.rest)
		wantBytes(t, "Head", head, x.head)
		wantFrame(t, x.head+x.rest, x.f)
	}
}

// P8.1, P8.2, P8.3
func TestFrames(t *testing.T) {
	for _, f := range frames() {
		wantWhole(t, f)
	}
}

// P8.3: frames with the same bytes are the same.
func TestFramesHeldApart(t *testing.T) {
	seen := map[string]api.Frame{}
	for _, f := range frames() {
		s, _ := put(t, f)
		if other, ok := seen[s]; ok && !same(f, other) {
			t.Errorf("%s and %s have the same bytes", told(f), told(other))
		}
		seen[s] = f
	}
}

// P8.1: the head is not of the Body or of Keys.
func TestHeadLeavesTheRest(t *testing.T) {
	for _, l := range [][]api.Frame{withBodies(hello()), withBodies(text()), withKeys(reveal())} {
		_, first := put(t, l[0])
		for _, f := range l {
			_, head := put(t, f)
			wantBytes(t, "Head", head, first)
		}
	}
}

// others are frames, that may be or not, each like the frame but for one of all it has.
func others(f api.Frame) map[string]api.Frame {
	out := map[string]api.Frame{}
	for _, kind := range []int{-1, 0, 1, 2, 3, f.Kind + 256, f.Kind + 1<<32} {
		if kind != f.Kind {
			out[fmt.Sprint("Kind ", kind)] = changed(f, func(g *api.Frame) { g.Kind = kind })
		}
	}
	for i := range numbers(&f) {
		for bit := range 64 {
			out[fmt.Sprint("number ", i, ", bit ", bit)] = changed(f, func(g *api.Frame) { *numbers(g)[i] ^= 1 << bit })
		}
	}
	for i, p := range texts(&f) {
		for bit := range 8 * len(*p) {
			out[fmt.Sprint("text ", i, ", bit ", bit)] = changed(f, func(g *api.Frame) { *texts(g)[i] = turned(*p, bit) })
		}
		out[fmt.Sprint("text ", i, " longer")] = changed(f, func(g *api.Frame) { *texts(g)[i] += "\x00" })
		if *p != "" {
			out[fmt.Sprint("text ", i, " shorter")] = changed(f, func(g *api.Frame) { *texts(g)[i] = (*p)[1:] })
			out[fmt.Sprint("text ", i, " none")] = changed(f, func(g *api.Frame) { *texts(g)[i] = "" })
		}
	}
	for i := range f.Keys {
		out[fmt.Sprint("key ", i, " turned")] = changed(f, func(g *api.Frame) { g.Keys[i] = turned(g.Keys[i], 9*i) })
		out[fmt.Sprint("key ", i, " longer")] = changed(f, func(g *api.Frame) { g.Keys[i] += "\x00" })
		out[fmt.Sprint("key ", i, " shorter")] = changed(f, func(g *api.Frame) { g.Keys[i] = g.Keys[i][1:] })
		out[fmt.Sprint("key ", i, " empty")] = changed(f, func(g *api.Frame) { g.Keys[i] = "" })
		out[fmt.Sprint("key ", i, " gone")] = changed(f, func(g *api.Frame) { g.Keys = slices.Delete(g.Keys, i, i+1) })
	}
	if len(f.Keys) > 1 {
		out["keys backwards"] = changed(f, func(g *api.Frame) { slices.Reverse(g.Keys) })
	}
	out["a key more"] = changed(f, func(g *api.Frame) { g.Keys = append(g.Keys, point(9)) })
	out["a key without bytes more"] = changed(f, func(g *api.Frame) { g.Keys = append(g.Keys, "") })
	return out
}

func wantLike(t *testing.T, what string, a, b api.Frame, wanted bool) {
	t.Helper()
	if frame.Like(a, b) != wanted || frame.Like(b, a) != wanted {
		t.Errorf("%s: like %v, %v; wanted %v", what, frame.Like(a, b), frame.Like(b, a), wanted)
	}
}

// strange are frames that may not be, but are held against others all the same.
func strange() []api.Frame {
	all := hello()
	all.Keys = points(2)
	far := all
	far.Kind = -7
	return []api.Frame{all, far, {}, {Kind: 3, Identity: "short", Keys: []string{"k", "kk"}}}
}

// P8.1, P8.3
func TestLike(t *testing.T) {
	for _, f := range append(ordinary(), strange()...) {
		wantLike(t, "itself", f, changed(f, func(*api.Frame) {}), true)
		for what, g := range others(f) {
			wantLike(t, what, f, g, false)
			if frame.Right(f) && frame.Right(g) {
				s, _ := put(t, f)
				other, _ := put(t, g)
				if s == other {
					t.Errorf("%s: the same bytes", what)
				}
			}
		}
	}
}

// P8.1, R3: no Keys are as a list of none.
func TestNoKeys(t *testing.T) {
	for _, f := range append(ordinary(), strange()...) {
		none := changed(f, func(g *api.Frame) { g.Keys = nil })
		empty := changed(f, func(g *api.Frame) { g.Keys = []string{} })
		wantLike(t, "no Keys", none, empty, true)
		if frame.Right(none) != rightByTheWords(none) || frame.Right(empty) != rightByTheWords(none) {
			t.Errorf("%s: may it be: %v, %v", told(none), frame.Right(none), frame.Right(empty))
		}
		s, why := frame.Put(none)
		again, whyAgain := frame.Put(empty)
		wantBytes(t, "Put", again, s)
		if why != whyAgain {
			t.Errorf("%s: errors %d, %d", told(none), why, whyAgain)
		}
	}
}

// P8.1: a text that passes from one field to the one beside it is not the same.
func TestTextsThatMove(t *testing.T) {
	a := api.Frame{Identity: "ab", Base: "c", Ratchet: "d", Body: "e"}
	for _, b := range []api.Frame{
		{Identity: "a", Base: "bc", Ratchet: "d", Body: "e"},
		{Identity: "ab", Base: "cd", Body: "e"},
		{Identity: "ab", Base: "c", Ratchet: "d", Keys: []string{"e"}},
	} {
		wantLike(t, "a text that moves", a, b, false)
	}
	wantLike(t, "keys joined", api.Frame{Keys: []string{"a", "b"}}, api.Frame{Keys: []string{"ab"}}, false)
	wantLike(t, "keys joined, and an empty one", api.Frame{Keys: []string{"a", "b"}}, api.Frame{Keys: []string{"ab", ""}}, false)
}

// P8.1
func TestWrongKinds(t *testing.T) {
	for _, kind := range []int{-1, -2, -3, 3, 4, 255, 256, 257, 258, -256, 1 << 31, 1 << 32, 1<<32 + 1, -1 << 32, math.MinInt, math.MinInt + 1, math.MaxInt} {
		for _, f := range append(ordinary(), api.Frame{}, api.Frame{Ratchet: point(1)}) {
			wantWrong(t, fmt.Sprint("Kind ", kind), changed(f, func(g *api.Frame) { g.Kind = kind }))
		}
	}
}

// P8.1: of each Kind, what it has of another size.
func TestWrongSizes(t *testing.T) {
	for _, f := range ordinary() {
		for i := range manyTexts(f.Kind) {
			for _, many := range []int{0, 1, 16, 31, 33, 64, 256 + 32, maxText, 1<<16 + 32} {
				g := changed(f, func(g *api.Frame) { *texts(g)[i] = some(1, many) })
				if texts(&g)[i] != &g.Body {
					wantWrong(t, fmt.Sprint("Kind ", f.Kind, ", text ", i, " of ", many), g)
				}
			}
		}
		if f.Kind != api.FReveal {
			for _, many := range []int{maxText + 1, maxText + 2, 2048, 1 << 16, 1 << 20} {
				wantWrong(t, fmt.Sprint("Body of ", many), changed(f, func(g *api.Frame) { g.Body = some(1, many) }))
			}
		}
	}
}

// P8.1
func TestWrongKeys(t *testing.T) {
	for _, many := range []int{maxKeys + 1, maxKeys + 2, 64, 256, 257, 1 << 16} {
		wantWrong(t, fmt.Sprint(many, " Keys"), changed(reveal(), func(g *api.Frame) { g.Keys = slices.Repeat([]string{point(1)}, many) }))
	}
	for _, many := range []int{1, 2, 31, maxKeys} {
		for _, at := range []int{0, many / 2, many - 1} {
			for _, wrong := range []int{0, 1, 31, 33, 64, maxText, maxText + 1} {
				l := points(many)
				l[at] = some(2, wrong)
				wantWrong(t, fmt.Sprint("key ", at, " of ", wrong), changed(reveal(), func(g *api.Frame) { g.Keys = l }))
			}
		}
	}
	for _, f := range []api.Frame{hello(), text()} {
		for _, l := range [][]string{points(1), {""}, points(maxKeys), points(maxKeys + 1)} {
			wantWrong(t, fmt.Sprint("Kind ", f.Kind, ", ", len(l), " Keys"), changed(f, func(g *api.Frame) { g.Keys = l }))
		}
	}
}

// P8.1: of each Kind, each of what just others have.
func TestWhatOthersHave(t *testing.T) {
	for _, f := range []api.Frame{text(), reveal(), {Kind: api.FReveal}} {
		for i := manyNumbers(f.Kind); i < len(numbers(&f)); i++ {
			for _, n := range edges()[1:] {
				wantWrong(t, fmt.Sprint("Kind ", f.Kind, ", number ", i), changed(f, func(g *api.Frame) { *numbers(g)[i] = n }))
			}
		}
		for i := manyTexts(f.Kind); i < len(texts(&f)); i++ {
			for _, s := range []string{"\x00", "a", point(1), some(1, maxText), some(1, maxText+1)} {
				wantWrong(t, fmt.Sprint("Kind ", f.Kind, ", text ", i), changed(f, func(g *api.Frame) { *texts(g)[i] = s }))
			}
		}
	}
	for _, f := range ordinary() {
		for kind := range 3 {
			if kind != f.Kind {
				wantWrong(t, fmt.Sprint("Kind ", kind, " in place of ", f.Kind), changed(f, func(g *api.Frame) { g.Kind = kind }))
			}
		}
	}
}

// P8.1
func TestOthersByTheWords(t *testing.T) {
	for _, f := range append(ordinary(), strange()...) {
		for what, g := range others(f) {
			if rightByTheWords(g) {
				wantWhole(t, g)
			} else {
				wantWrong(t, what, g)
			}
		}
	}
}

// P8.2: bytes that end too early, at each byte.
func TestCutBytes(t *testing.T) {
	for _, f := range append(ordinary(), api.Frame{Kind: api.FReveal, Keys: points(maxKeys)}, api.Frame{Kind: api.FReveal, From: top, To: top, Id: top}, changed(hello(), func(f *api.Frame) { f.Body = some(1, maxText) }), changed(text(), func(f *api.Frame) { f.Body = "" })) {
		s, _ := put(t, f)
		for cut := range s {
			wantNone(t, "cut", s[:cut])
		}
	}
	wantNone(t, "no bytes", "")
}

// P8.2
func TestMoreBytes(t *testing.T) {
	for _, f := range frames() {
		s, _ := put(t, f)
		for _, more := range []string{"\x00", "\x01\x20" + point(1), "\xff", s} {
			wantNone(t, "more bytes", s+more)
		}
	}
}

// P8.2: a Kind that is none, or whose number has another form.
func TestWrongKindBytes(t *testing.T) {
	for _, f := range ordinary() {
		s, _ := put(t, f)
		behind := s[len(numberByTheWords(uint64(f.Kind))):]
		for _, n := range append(edges(), 3, 4, 255, 258, 1<<32+1, 1<<32+2) {
			if n != uint64(f.Kind) {
				wantNone(t, fmt.Sprint("Kind ", n), numberByTheWords(n)+behind)
			}
		}
		for many := 1; many <= 255; many++ {
			wantNone(t, "Kind with bytes 0 ahead", string([]byte{byte(many)})+strings.Repeat("\x00", many-1)+string([]byte{byte(f.Kind)})+behind+behind)
		}
		wantNone(t, "no Kind", behind)
	}
	for b := range 256 {
		wantAsByTheWords(t, string([]byte{byte(b)}))
		for c := range 256 {
			wantAsByTheWords(t, string([]byte{byte(b), byte(c)}))
			wantAsByTheWords(t, string([]byte{1, byte(b), byte(c), 0, 0, 0}))
		}
	}
}

// P8.2: the bytes that a frame which may not be would have, of each Kind: points, keys and bodies of another size, too many keys.
func TestBytesOfWrongFrames(t *testing.T) {
	for _, f := range ordinary() {
		for i := range manyTexts(f.Kind) {
			for _, many := range []int{0, 1, 31, 32, 33, 64, 1023, maxText, maxText + 1, 2048} {
				wantAsByTheWords(t, bytesByTheWords(changed(f, func(g *api.Frame) { *texts(g)[i] = some(1, many) })))
			}
		}
	}
	for _, f := range []api.Frame{hello(), text()} {
		wantNone(t, "Body of 1025", bytesByTheWords(changed(f, func(g *api.Frame) { g.Body = some(1, maxText+1) })))
		wantNone(t, "Ratchet of 31", bytesByTheWords(changed(f, func(g *api.Frame) { g.Ratchet = some(1, 31) })))
		wantNone(t, "Ratchet of 33", bytesByTheWords(changed(f, func(g *api.Frame) { g.Ratchet = some(1, 33) })))
	}
	for _, many := range []int{maxKeys + 1, maxKeys + 2, 255, 256} {
		wantNone(t, fmt.Sprint(many, " Keys"), bytesByTheWords(changed(reveal(), func(g *api.Frame) { g.Keys = points(many) })))
	}
	for _, wrong := range []int{0, 1, 31, 33, 64, maxText, maxText + 1} {
		for at := range 3 {
			wantNone(t, fmt.Sprint("key ", at, " of ", wrong), bytesByTheWords(changed(reveal(), func(g *api.Frame) { g.Keys[at] = some(1, wrong) })))
		}
	}
}

// P8.2: numbers with a byte 0 ahead, in each place.
func TestNumbersInOtherForms(t *testing.T) {
	for _, f := range ordinary() {
		for i := range manyNumbers(f.Kind) {
			f = changed(f, func(g *api.Frame) { *numbers(g)[i] = 0xabcdef })
			s, _ := put(t, f)
			at := strings.Index(s, "\x03\xab\xcd\xef")
			wantNone(t, "a byte 0 ahead", s[:at]+"\x04\x00"+s[at+1:])
			wantNone(t, "9 bytes", s[:at]+"\x09"+strings.Repeat("\x00", 6)+s[at+1:])
			wantAsByTheWords(t, s[:at]+"\x04\x01"+s[at+1:])
			f = changed(f, func(g *api.Frame) { *numbers(g)[i] = uint64(i) })
		}
	}
}

// P8.2: bytes of a Kind with what another Kind has.
func TestBytesOfOtherKinds(t *testing.T) {
	kind := func(n int) string { return numberByTheWords(uint64(n)) }
	for _, f := range frames() {
		s, _ := put(t, f)
		for other := range 3 {
			if other != f.Kind {
				wantAsByTheWords(t, kind(other)+s[len(kind(f.Kind)):])
			}
		}
	}
	h, x, r := bytesByTheWords(hello()), bytesByTheWords(text()), bytesByTheWords(reveal())
	for what, s := range map[string]string{
		"a hello as a text":    kind(1) + h[1:],
		"a hello as a reveal":  kind(2) + h[1:],
		"a text as a hello":    kind(0) + x[2:],
		"a text as a reveal":   kind(2) + x[2:],
		"a reveal as a hello":  kind(0) + r[2:],
		"a reveal as a text":   kind(1) + r[2:],
		"a text with keys":     x + r[len(headByTheWords(reveal())):],
		"a text with no keys":  x + "\x00",
		"a reveal with a body": r + textByTheWords("body"),
	} {
		wantNone(t, what, s)
	}
}

// P8.2, P8.3: a byte of a frame set to another one, put in, or taken out.
func TestSpoiltBytes(t *testing.T) {
	r := rand.New(rand.NewSource(2))
	for i := range 3000 {
		f := ordinary()[i%3]
		if i%2 == 0 {
			f = random(r)
		}
		s, _ := put(t, f)
		at := r.Intn(min(len(s), 1+r.Intn(len(s))))
		for _, b := range []byte{0, 1, 2, 3, 4, 8, 9, 31, 32, 33, 255, byte(r.Intn(256))} {
			one := string([]byte{b})
			wantAsByTheWords(t, s[:at]+one+s[at+1:])
			wantAsByTheWords(t, s[:at]+one+s[at:])
		}
		wantAsByTheWords(t, s[:at]+s[at+1:])
	}
}

// P8.2, P8.3: all short bytes of such as mean something, behind each Kind's.
func TestAllShortBytes(t *testing.T) {
	last := []string{"\x01\x02", "\x00", "\x01\x01"}
	for range 5 {
		var next []string
		for _, s := range last {
			wantAsByTheWords(t, s)
			for _, b := range "\x00\x01\x02\x03\x08\x09\x20" {
				next = append(next, s+string(b))
			}
		}
		last = next
	}
}

// R1, R4: no answer hangs on a call ahead of it, nor on what is done to another answer, and no list that was handed in is changed.
func TestNothingIsKept(t *testing.T) {
	room := make([]string, 3, 10)
	copy(room, points(3))
	f := changed(reveal(), func(*api.Frame) {})
	f.Keys = room
	s, head := put(t, f)
	got, _ := frame.Get(s)
	clear(got.Keys)
	_ = append(got.Keys[:0], "other")
	wantFrame(t, s, f)
	wantNone(t, "no bytes", "")
	wantWrong(t, "no Kind", api.Frame{Kind: 3})
	frame.Like(f, got)
	if !slices.Equal(room[:10], append(points(3), make([]string, 7)...)) {
		t.Errorf("%q", room[:10])
	}
	again, headAgain := put(t, f)
	wantBytes(t, "Put again", again, s)
	wantBytes(t, "Head again", headAgain, head)
}

func FuzzGet(f *testing.F) {
	for _, x := range frames()[:300] {
		f.Add(bytesByTheWords(x))
	}
	f.Add("\x01\x03\x00\x00\x00\x00")
	f.Fuzz(func(t *testing.T, s string) { wantAsByTheWords(t, s) })
}

func FuzzPut(f *testing.F) {
	f.Add(0, uint64(1), uint64(2), uint64(3), point(1), point(2), uint64(4), uint64(5), point(3), uint64(6), uint64(7), "body", 0, "")
	f.Add(1, uint64(1), uint64(2), uint64(3), "", "", uint64(0), uint64(0), point(3), uint64(6), uint64(7), "body", 0, "")
	f.Add(2, uint64(1), uint64(2), uint64(3), "", "", uint64(0), uint64(0), "", uint64(0), uint64(0), "", 5, point(4))
	f.Fuzz(func(t *testing.T, kind int, from, to, id uint64, identity, base string, signed, once uint64, ratchet string, prev, n uint64, body string, many int, key string) {
		x := api.Frame{Kind: kind, From: from, To: to, Id: id, Identity: identity, Base: base, Signed: signed, Once: once, Ratchet: ratchet, Prev: prev, N: n, Body: body}
		if 0 < many && many < 1000 {
			x.Keys = slices.Repeat([]string{key}, many)
		}
		if rightByTheWords(x) {
			wantWhole(t, x)
		} else {
			wantWrong(t, told(x), x)
		}
	})
}

func BenchmarkPut(b *testing.B) {
	f := hello()
	for range b.N {
		frame.Put(f)
	}
}

func BenchmarkGet(b *testing.B) {
	s := bytesByTheWords(hello())
	for range b.N {
		frame.Get(s)
	}
}

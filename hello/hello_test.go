package hello_test

import (
	"crypto/ecdh"
	"crypto/hmac"
	"crypto/sha256"
	"encoding/hex"
	"math/rand"
	"slices"
	"strings"
	"testing"

	"demurral/api"
	"demurral/hello"
)

// begun is what who begins has: two keys, and the other one's points; the one-time point may be empty.
type begun struct{ identity, base, peer, signed, once string }

// asked is what who is asked has: the keys, of which the one-time one may be empty, and the other one's points.
type asked struct{ identity, signed, once, peer, base string }

func (b begun) tell() (string, api.Errno) {
	return hello.Initiate(b.identity, b.base, b.peer, b.signed, b.once)
}

func (a asked) tell() (string, api.Errno) {
	return hello.Respond(a.identity, a.signed, a.once, a.peer, a.base)
}

// teller is one of the two.
type teller interface {
	tell() (string, api.Errno)
}

// begunOf and askedOf are of a row of five, in the order of the function's arguments.
func begunOf(l []string) teller { return begun{l[0], l[1], l[2], l[3], l[4]} }

func askedOf(l []string) teller { return asked{l[0], l[1], l[2], l[3], l[4]} }

// role is one of the two functions: how a teller is made of a row of five, which of the row are keys, and which is the one-time one.
type role struct {
	name string
	of   func([]string) teller
	keys []int
	once int
	// points are the secret's, of a row, by the chapter's words.
	points func(*testing.T, []string) []string
}

func roles() []role {
	return []role{
		{"who begins", begunOf, []int{0, 1}, 4, pointsBegun},
		{"who is asked", askedOf, []int{0, 1, 2}, 2, pointsAsked},
	}
}

// some are bytes without a rule, the same at every run.
func some(seed int64, many int) string {
	b := make([]byte, many)
	rand.New(rand.NewSource(seed)).Read(b)
	return string(b)
}

// rowOf are five keys or points without a rule.
func rowOf(seed int64) []string {
	var out []string
	for i := range int64(5) {
		out = append(out, some(5*seed+i, 32))
	}
	return out
}

// with is the row with another one in one place.
func with(l []string, place int, s string) []string {
	out := slices.Clone(l)
	out[place] = s
	return out
}

func fill(s string) string { return strings.Repeat(s, 32) }

// rising are the bytes 0, 1, 2 and so on.
func rising() string {
	var b []byte
	for i := range 32 {
		b = append(b, byte(i))
	}
	return string(b)
}

// falling are the bytes 255, 254, 253 and so on.
func falling() string {
	var b []byte
	for i := range 32 {
		b = append(b, byte(255-i))
	}
	return string(b)
}

// turned is the text with one bit of it turned.
func turned(s string, bit int) string {
	b := []byte(s)
	b[bit/8] ^= 1 << (bit % 8)
	return string(b)
}

func raw(t *testing.T, s string) string {
	t.Helper()
	b, err := hex.DecodeString(s)
	if err != nil || len(b) != api.Size {
		t.Fatalf("%s: %d bytes, %v", s, len(b), err)
	}
	return string(b)
}

// wrongSizes are those that no key and no point may have: those next to 32 among them, and others that have 32 in their lowest bits.
func wrongSizes() []int {
	return []int{1, 2, 16, 30, 31, 33, 34, 63, 64, 65, 96, 128, 256 + 32, 1<<16 + 32}
}

// edges are such keys and points of which more could go wrong: of one byte alone, points that every key takes to 0, and numbers next to the prime, as bytes.
func edges() []string {
	nothing := fill("\x00")
	ones := fill("\xff")
	return []string{nothing, ones, "\x01" + nothing[1:], "\x09" + nothing[1:],
		ones[:31] + "\x7f", "\xec" + ones[:30] + "\x7f", "\xed" + ones[:30] + "\x7f", "\xee" + ones[:30] + "\x7f",
		nothing[:31] + "\x40", nothing[:31] + "\x80", rising(), falling()}
}

// mult, and what follows it up to secretOf, is the chapter's words, with the library's X25519 and HMAC. Where the library refuses a product, it is 0.
func mult(t *testing.T, key, point string) string {
	t.Helper()
	k, err := ecdh.X25519().NewPrivateKey([]byte(key))
	if err != nil {
		t.Fatal(err)
	}
	p, err := ecdh.X25519().NewPublicKey([]byte(point))
	if err != nil {
		t.Fatal(err)
	}
	out, err := k.ECDH(p)
	if err != nil {
		return fill("\x00")
	}
	return string(out)
}

func pointOf(t *testing.T, key string) string {
	t.Helper()
	return mult(t, key, "\x09"+strings.Repeat("\x00", 31))
}

func pointsBegun(t *testing.T, l []string) []string {
	t.Helper()
	identity, base, peer, signed, once := l[0], l[1], l[2], l[3], l[4]
	out := []string{mult(t, identity, signed), mult(t, base, peer), mult(t, base, signed)}
	if once == "" {
		return out
	}
	return append(out, mult(t, base, once))
}

func pointsAsked(t *testing.T, l []string) []string {
	t.Helper()
	identity, signed, once, peer, base := l[0], l[1], l[2], l[3], l[4]
	out := []string{mult(t, signed, peer), mult(t, identity, base), mult(t, signed, base)}
	if once == "" {
		return out
	}
	return append(out, mult(t, once, base))
}

func tagOf(key, s string) string {
	m := hmac.New(sha256.New, []byte(key))
	m.Write([]byte(s))
	return string(m.Sum(nil))
}

func secretOf(points []string) string { return tagOf("hello", strings.Join(points, "")) }

func tell(t *testing.T, one teller) string {
	t.Helper()
	s, why := one.tell()
	if why != api.OK || len(s) != 32 {
		t.Fatalf("%x: %x, error %d", one, s, why)
	}
	return s
}

func want(t *testing.T, what, got, wanted string) {
	t.Helper()
	if got != wanted {
		t.Errorf("%s: %x; wanted %x", what, got, wanted)
	}
}

func wantSizeError(t *testing.T, what string, one teller) {
	t.Helper()
	if s, why := one.tell(); s != "" || why != api.ErrSize {
		t.Errorf("%s: %x, error %d; wanted error %d", what, s, why, api.ErrSize)
	}
}

func distinct(l []string) int { return len(slices.Compact(slices.Sorted(slices.Values(l)))) }

// two are the keys of both: who begins has an identity and a base, who is asked the others; once may be empty.
type two struct{ identity, base, peer, signed, once string }

func (w two) begins(t *testing.T) begun {
	t.Helper()
	out := begun{identity: w.identity, base: w.base, peer: pointOf(t, w.peer), signed: pointOf(t, w.signed)}
	if w.once != "" {
		out.once = pointOf(t, w.once)
	}
	return out
}

func (w two) isAsked(t *testing.T) asked {
	t.Helper()
	return asked{identity: w.peer, signed: w.signed, once: w.once, peer: pointOf(t, w.identity), base: pointOf(t, w.base)}
}

func (w two) without() two {
	w.once = ""
	return w
}

func twoOf(l []string) two { return two{l[0], l[1], l[2], l[3], l[4]} }

// P11.1, P11.2: as OpenSSL and Python tell them, without a one-time key and with one.
func TestExamplesOfBoth(t *testing.T) {
	none, all := fill("\x00"), fill("\xff")
	for _, x := range []struct {
		keys          two
		without, with string
	}{
		{two{fill("a"), fill("e"), fill("b"), fill("s"), fill("o")},
			"688e901a63f75959c5532f9966fb3467f6fe5becb3aecc4feb20bbd16d158b81", "dd775841928a064f36373b0b4115d0b4e45084ada142254c05ee8de31d4fea20"},
		{two{rising(), falling(), fill("\x01"), fill("\x02"), fill("\x03")},
			"d2c404dd247f7179d36204bbf558297e6b35ec18fde9241329201bb1a40bdec9", "fb8009132db21ec88a2ee7c52fa265075d5a9f9782dfafe4a16e123a7555ae0b"},
		{two{none, none, none, none, none},
			"c0b38dd12552c9f5b4c68cf81a9a582750c863e40763591b92d23e01fe32bd9c", "f60b8bb790b9af4ce7e9c33d4dc9554ad7fe6e772ac46a514352daf04a0b1ca5"},
		{two{all, all, all, all, all},
			"42c5466337dd738ae35644ae8ab1fe5e05768a2e61c3f0540dfcb5d4536ec2d5", "7b00b531bff2e4bfecc23091d9f254f8f3dafba98f13112970a95f2bd778dedd"},
		{two{none, all, all, none, all},
			"bef4b95cd565e43b706450379790252a02dc653cdf18e47b00b6faf6caa24932", "73f03e4193c1d76a96b052d8bb963e9300a93a0f1d78c4520dfa4df4c156e255"},
	} {
		for _, one := range []teller{x.keys.begins(t), x.keys.isAsked(t)} {
			want(t, "with a one-time key", tell(t, one), raw(t, x.with))
		}
		for _, one := range []teller{x.keys.without().begins(t), x.keys.without().isAsked(t)} {
			want(t, "without a one-time key", tell(t, one), raw(t, x.without))
		}
	}
}

// P11.1: as OpenSSL and Python tell them, of bytes that are points of no one's key, or no points at all.
func TestExamplesOfEach(t *testing.T) {
	none, all := fill("\x00"), fill("\xff")
	const nothing3, nothing4 = "1746d077e65367e095030ae2c6f97b2c26694f3bc5cfd492aeca34f8bdf43a06", "58c38597b912f74c00deee7aaed75ebf23488d5264cfb9e76207e9b9daa0b7b1"
	const full3, full4 = "e063f57c4afe98db3f3b147c803bafbd9ebbd4d19b833c5616f05418b281ca95", "073ffe1b82a337825a12e356251f7c46a9f275c67f8b3860e3747ac766c7d06f"
	const low3, low4 = "62ab3a1fae47837075d2c8116e14d8dc790fa424a45d0e47f505994ee3200a6c", "58eaaecc5651cd06e5cdac25ed2f7f71f27ecfed42dc2e51cbe43833f260be60"
	for _, x := range []struct {
		begun         begun
		asked         asked
		without, with string
	}{
		{begun{none, none, none, none, none}, asked{none, none, none, none, none}, nothing3, nothing4},
		{begun{all, all, none, none, none}, asked{all, all, all, none, none}, nothing3, nothing4},
		{begun{all, all, all, all, all}, asked{all, all, all, all, all}, full3, full4},
		{begun{none, none, all, all, all}, asked{none, none, none, all, all}, low3, low4},
	} {
		want(t, "who begins", tell(t, x.begun), raw(t, x.with))
		want(t, "who is asked", tell(t, x.asked), raw(t, x.with))
		x.begun.once, x.asked.once = "", ""
		want(t, "who begins, without a one-time point", tell(t, x.begun), raw(t, x.without))
		want(t, "who is asked, without a one-time key", tell(t, x.asked), raw(t, x.without))
	}
	for _, x := range []struct {
		one    teller
		secret string
	}{
		{begun{fill("a"), fill("e"), fill("p"), fill("s"), ""}, "b40e433547449e85d1f15e31328386074c6e727d669707fc4c09d895a6ea40e5"},
		{begun{fill("a"), fill("e"), fill("p"), fill("s"), fill("o")}, "604d5f4e7917da1def887914c488ec23ed352e0d3f1a7ba64c1f6f79f9259961"},
		{begun{rising(), falling(), fill("\x01"), fill("\x02"), ""}, "d91ef3b61f57080bd2ac3c533197c44cad3c32eaf0e3480cbecbf8add61e03a3"},
		{begun{rising(), falling(), fill("\x01"), fill("\x02"), fill("\x03")}, "9d4595fb1823d0073178c669a6f4ab765b50441c39fbaaf31a1360eb54dbed16"},
		{asked{fill("b"), fill("s"), "", fill("p"), fill("e")}, "288fd4bf8a1b0571aea9040db54459788ed0e87b706474adc00ec63e099bb1d6"},
		{asked{fill("b"), fill("s"), fill("o"), fill("p"), fill("e")}, "5fc5f0872207039cb25a70f5df55fc883b6c5a7f7d093f4b6503c105fc8f3948"},
		{asked{rising(), falling(), "", fill("\x01"), fill("\x02")}, "47bfbe9daeb0f19e734332b409ab388a3711651e603e1410a7b5b9385eecc766"},
		{asked{rising(), falling(), fill("\x03"), fill("\x01"), fill("\x02")}, "329e8514b319e8049cf8825ea5ca4247b13fca13fa66a03da11fbbf147cbcc45"},
	} {
		want(t, "the secret", tell(t, x.one), raw(t, x.secret))
	}
}

// P11.1: of each, without a one-time one and with it.
func TestByTheWords(t *testing.T) {
	for _, r := range roles() {
		for i := range int64(60) {
			l := rowOf(i)
			want(t, r.name, tell(t, r.of(l)), secretOf(r.points(t, l)))
			l = with(l, r.once, "")
			want(t, r.name+", without a one-time one", tell(t, r.of(l)), secretOf(r.points(t, l)))
		}
	}
}

// P11.1: each of the edges in each place, and in all places but one; a one-time one of bytes 0 is there as any other.
func TestEdgesByTheWords(t *testing.T) {
	for _, r := range roles() {
		for _, edge := range edges() {
			for place := range 5 {
				l := with(rowOf(100), place, edge)
				want(t, r.name, tell(t, r.of(l)), secretOf(r.points(t, l)))
				l = with([]string{edge, edge, edge, edge, edge}, place, some(101, 32))
				want(t, r.name, tell(t, r.of(l)), secretOf(r.points(t, l)))
			}
		}
	}
}

// P11.1: the points are one behind the other in the chapter's order, and in no other one; none is left out.
func TestOrderOfPoints(t *testing.T) {
	for _, r := range roles() {
		for _, l := range [][]string{rowOf(200), with(rowOf(201), r.once, "")} {
			points := r.points(t, l)
			got := tell(t, r.of(l))
			fitting := 0
			for _, other := range orders(points) {
				if got == secretOf(other) {
					fitting++
				}
			}
			if fitting != 1 || got != secretOf(points) {
				t.Errorf("%s: %d orders of %d points", r.name, fitting, len(points))
			}
			for i := range points {
				if got == secretOf(slices.Delete(slices.Clone(points), i, i+1)) {
					t.Errorf("%s: without point %d of %d", r.name, i, len(points))
				}
			}
		}
	}
}

// orders are all orders of a row.
func orders(l []string) [][]string {
	if len(l) == 0 {
		return [][]string{nil}
	}
	var out [][]string
	for i := range l {
		for _, others := range orders(slices.Delete(slices.Clone(l), i, i+1)) {
			out = append(out, append([]string{l[i]}, others...))
		}
	}
	return out
}

// P11.1: the salt is `hello`, and is the key of the tag, not its text.
func TestSalt(t *testing.T) {
	for _, r := range roles() {
		l := rowOf(202)
		got, points := tell(t, r.of(l)), strings.Join(r.points(t, l), "")
		want(t, r.name, got, tagOf("hello", points))
		for _, other := range []string{tagOf(points, "hello"), tagOf("", points), tagOf("Hello", points), tagOf("hello\x01", points), tagOf("hell", points), tagOf("root", points)} {
			if got == other {
				t.Errorf("%s: the salt is another one", r.name)
			}
		}
	}
}

// P11.1: a one-time one makes another secret, one of bytes 0 too; and each other one another.
func TestOnceCounts(t *testing.T) {
	for _, r := range roles() {
		var seen []string
		for _, once := range []string{"", fill("\x00"), some(203, 32), some(204, 32), "\x09" + strings.Repeat("\x00", 31)} {
			seen = append(seen, tell(t, r.of(with(rowOf(205), r.once, once))))
		}
		wanted := len(seen)
		if many := distinct(seen); many != wanted {
			t.Errorf("%s: %d of %d", r.name, many, wanted)
		}
	}
}

// counts tells whether a bit is of account (chapter 2): one of a key that is not clamped, or one of a point but its highest.
func counts(key bool, bit int) bool {
	if key {
		return bit > 2 && bit < 254
	}
	return bit < 255
}

// P11.1: of each key and point the bits count that chapter 2 takes, and no others.
func TestBitsCount(t *testing.T) {
	for _, r := range roles() {
		l := rowOf(206)
		wanted := tell(t, r.of(l))
		for place := range 5 {
			for bit := range 256 {
				if bit > 9 && bit < 246 && bit%11 != place {
					continue // a bit less than one a byte, so that it does not take long
				}
				got := tell(t, r.of(with(l, place, turned(l[place], bit))))
				if counts(slices.Contains(r.keys, place), bit) != (got != wanted) {
					t.Errorf("%s, place %d, bit %d: %x of %x", r.name, place, bit, got, wanted)
				}
			}
		}
	}
}

// P11.1: no two arguments stand for each other.
func TestPlacesCount(t *testing.T) {
	for _, r := range roles() {
		l := rowOf(207)
		seen := []string{tell(t, r.of(l))}
		for i := range 5 {
			for j := range i {
				seen = append(seen, tell(t, r.of(with(with(l, i, l[j]), j, l[i]))))
			}
		}
		wanted := len(seen)
		if many := distinct(seen); many != wanted {
			t.Errorf("%s: %d of %d", r.name, many, wanted)
		}
	}
}

// P11.2: of any keys, without a one-time key and with one.
func TestBothTellTheSame(t *testing.T) {
	for i := range int64(30) {
		w := twoOf(rowOf(300 + i))
		want(t, "both", tell(t, w.isAsked(t)), tell(t, w.begins(t)))
		want(t, "both, without a one-time key", tell(t, w.without().isAsked(t)), tell(t, w.without().begins(t)))
	}
	for _, edge := range edges() {
		for place := range 5 {
			w := twoOf(with(rowOf(330), place, edge))
			want(t, "both", tell(t, w.isAsked(t)), tell(t, w.begins(t)))
			w = twoOf(with([]string{edge, edge, edge, edge, edge}, place, some(331, 32))).without()
			want(t, "both, without a one-time key", tell(t, w.isAsked(t)), tell(t, w.begins(t)))
		}
	}
}

// P11.2: where one of the keys is another one, or only one of the two has a one-time one, they do not tell the same.
func TestOthersTellOthers(t *testing.T) {
	l := rowOf(332)
	seen := []string{tell(t, twoOf(l).begins(t)), tell(t, twoOf(l).without().isAsked(t))}
	for place := range 5 {
		other := twoOf(with(l, place, some(333+int64(place), 32)))
		seen = append(seen, tell(t, other.isAsked(t)))
	}
	wanted := len(seen)
	if many := distinct(seen); many != wanted {
		t.Errorf("%d of %d", many, wanted)
	}
}

// P11.2: who is asked makes a base key, and tells what the other one would with it, of the point of the other one's identity alone; so what both tell proves nothing of who began.
func TestAskedTellsAlone(t *testing.T) {
	for i := range int64(10) {
		l := rowOf(340 + i)
		own, base := asked{identity: l[0], signed: l[1], once: l[2]}, l[3]
		stranger := l[4]
		own.peer, own.base = pointOf(t, stranger), pointOf(t, base)
		made := []string{mult(t, own.signed, own.peer), mult(t, base, pointOf(t, own.identity)), mult(t, base, pointOf(t, own.signed)), mult(t, base, pointOf(t, own.once))}
		real := begun{stranger, base, pointOf(t, own.identity), pointOf(t, own.signed), pointOf(t, own.once)}
		want(t, "alone", tell(t, own), secretOf(made))
		want(t, "as the other one", tell(t, own), tell(t, real))
		own.once, real.once = "", ""
		want(t, "alone, without a one-time key", tell(t, own), secretOf(made[:3]))
		want(t, "as the other one, without a one-time key", tell(t, own), tell(t, real))
	}
}

// P11.1: each alone, of any size that may not be, without a one-time one and with it; an empty one-time one alone may be.
func TestWrongOnes(t *testing.T) {
	for _, r := range roles() {
		for _, l := range [][]string{rowOf(400), with(rowOf(401), r.once, ""), {fill("\x00"), fill("\x00"), fill("\x00"), fill("\x00"), fill("\x00")}} {
			for place := range 5 {
				for _, many := range wrongSizes() {
					wantSizeError(t, r.name, r.of(with(l, place, some(402, many))))
					wantSizeError(t, r.name, r.of(with(l, place, strings.Repeat("\x00", many))))
				}
				if place != r.once {
					wantSizeError(t, r.name, r.of(with(l, place, "")))
				}
			}
		}
	}
}

// P11.1: every set of several that are wrong, of one size and of different ones.
func TestWrongOnesTogether(t *testing.T) {
	sizes := []int{31, 33, 64, 1, 63}
	for _, r := range roles() {
		for set := 1; set < 1<<5; set++ {
			l, unlike := rowOf(403), rowOf(404)
			empty := rowOf(405)
			for place := range 5 {
				if set>>place&1 != 0 {
					l[place], unlike[place], empty[place] = some(406, 31), some(407, sizes[place]), ""
				}
			}
			wantSizeError(t, r.name, r.of(l))
			wantSizeError(t, r.name, r.of(unlike))
			if set != 1<<r.once {
				wantSizeError(t, r.name, r.of(empty))
			}
		}
	}
}

// P11.1: what lacks a byte is not made good by what has one more, next to it.
func TestWrongOnesThatAreRightTogether(t *testing.T) {
	for _, r := range roles() {
		l := rowOf(408)
		for i := range 5 {
			for j := range 5 {
				if i != j {
					wantSizeError(t, r.name, r.of(with(with(l, i, l[i][:31]), j, l[j]+l[i][31:])))
					wantSizeError(t, r.name, r.of(with(with(l, i, ""), j, l[j]+l[i])))
				}
			}
		}
	}
}

// R1: no answer hangs on a call ahead of it.
func TestNothingIsKept(t *testing.T) {
	l := rowOf(409)
	for _, r := range roles() {
		wanted := secretOf(r.points(t, l))
		bare := with(l, r.once, "")
		wantedBare := secretOf(r.points(t, bare))
		for i := range int64(3) {
			want(t, r.name, tell(t, r.of(l)), wanted)
			want(t, r.name, tell(t, r.of(bare)), wantedBare)
			tell(t, r.of(rowOf(410+i)))
			wantSizeError(t, r.name, r.of(with(l, 0, "short")))
		}
	}
}

func FuzzAll(f *testing.F) {
	f.Add(fill("a"), fill("e"), fill("b"), fill("s"), fill("o"))
	f.Add(fill("a"), fill("e"), fill("b"), fill("s"), "")
	f.Add(fill("a"), fill("e"), "", fill("s"), fill("o"))
	f.Add(some(411, 31), some(412, 33), some(413, 64), "", "x")
	f.Fuzz(func(t *testing.T, a, b, c, d, e string) {
		l := []string{a, b, c, d, e}
		for _, r := range roles() {
			right := true
			for place, s := range l {
				right = right && (len(s) == 32 || s == "" && place == r.once)
			}
			if !right {
				wantSizeError(t, r.name, r.of(l))
				continue
			}
			want(t, r.name, tell(t, r.of(l)), secretOf(r.points(t, l)))
		}
	})
}

func BenchmarkInitiate(b *testing.B) {
	one := begunOf(rowOf(414))
	for range b.N {
		one.tell()
	}
}

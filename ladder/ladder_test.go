package ladder_test

import (
	"crypto/ecdh"
	"encoding/hex"
	"math/big"
	"math/rand"
	"slices"
	"strings"
	"testing"

	"demurral/api"
	"demurral/ladder"
)

var nothing = strings.Repeat("\x00", api.Size)

// above is 2^power and as much as more says.
func above(power uint, more int64) *big.Int {
	n := new(big.Int).Lsh(big.NewInt(1), power)
	return n.Add(n, big.NewInt(more))
}

// prime is p, and as much as more says.
func prime(more int64) *big.Int { return above(255, more-19) }

func tell(n *big.Int) string {
	b := n.FillBytes(make([]byte, api.Size))
	slices.Reverse(b)
	return string(b)
}

func number(s string) *big.Int {
	b := []byte(s)
	slices.Reverse(b)
	return new(big.Int).SetBytes(b)
}

func raw(t *testing.T, s string) string {
	t.Helper()
	b, err := hex.DecodeString(s)
	if err != nil || len(b) != api.Size {
		t.Fatalf("%s: %d bytes, %v", s, len(b), err)
	}
	return string(b)
}

// some are bytes without a rule, the same at every run.
func some(seed int64, many int) []string {
	r := rand.New(rand.NewSource(seed))
	var out []string
	for range many {
		b := make([]byte, api.Size)
		r.Read(b)
		out = append(out, string(b))
	}
	return out
}

func edgeKeys() []string {
	var out []string
	for _, n := range []int64{0, 1, 7, 8, 9, 255, 256} {
		out = append(out, tell(big.NewInt(n)))
	}
	return append(out, tell(above(254, -1)), tell(above(254, 0)), tell(above(254, 8)), tell(above(255, -8)),
		tell(above(255, -1)), tell(above(255, 0)), tell(above(256, -1)), tell(prime(0)))
}

// lowPoints are those of which eight times is the point that has no number: every clamped key is a multiple of 8, so times every key they are 0.
func lowPoints(t *testing.T) []string {
	t.Helper()
	return []string{
		tell(big.NewInt(0)), tell(big.NewInt(1)), tell(prime(-1)), tell(prime(0)), tell(prime(1)),
		raw(t, "e0eb7a7c3b41b8ae1656e3faf19fc46ada098deb9c32b1fd866205165f49b800"),
		raw(t, "5f9c95bca3508c24b1d0b1559c83ef5b04445cc4581c8e86d8224eddd09f1157"),
	}
}

func edgePoints(t *testing.T) []string {
	t.Helper()
	out := lowPoints(t)
	for n := int64(2); n < 20; n++ {
		out = append(out, tell(big.NewInt(n)), tell(prime(-n)))
	}
	for n := int64(2); n < 19; n++ {
		out = append(out, tell(prime(n)))
	}
	return append(out, tell(above(64, -1)), tell(above(128, 0)), tell(above(254, -1)), tell(above(254, 0)))
}

// withHighest is the point with the other highest bit.
func withHighest(u string) string {
	b := []byte(u)
	b[api.Size-1] ^= 128
	return string(b)
}

func want(t *testing.T, what, got string, why api.Errno, wanted string) {
	t.Helper()
	if why != api.OK || got != wanted {
		t.Errorf("%s: %x, error %d; wanted %x", what, got, why, wanted)
	}
}

func mult(t *testing.T, k, u string) string {
	t.Helper()
	s, why := ladder.Mult(k, u)
	if why != api.OK || len(s) != api.Size {
		t.Fatalf("%x times %x: %x, error %d", u, k, s, why)
	}
	return s
}

func base(t *testing.T, k string) string {
	t.Helper()
	s, why := ladder.Base(k)
	if why != api.OK || len(s) != api.Size {
		t.Fatalf("base of %x: %x, error %d", k, s, why)
	}
	return s
}

func clamp(t *testing.T, k string) string {
	t.Helper()
	s, why := ladder.Clamp(k)
	if why != api.OK || len(s) != api.Size {
		t.Fatalf("%x clamped: %x, error %d", k, s, why)
	}
	return s
}

// byLibrary is the point times the key as Go's library tells it; where it refuses the product, it is 0.
func byLibrary(t *testing.T, k, u string) string {
	t.Helper()
	key, err := ecdh.X25519().NewPrivateKey([]byte(k))
	if err != nil {
		t.Fatal(err)
	}
	point, err := ecdh.X25519().NewPublicKey([]byte(u))
	if err != nil {
		t.Fatal(err)
	}
	out, err := key.ECDH(point)
	if err != nil {
		return nothing
	}
	return string(out)
}

// P2.1: the chapter's example, and those of RFC 7748.
func TestExamples(t *testing.T) {
	nine := tell(big.NewInt(9))
	once := mult(t, nine, nine)
	if !strings.HasPrefix(once, "\x42\x2c\x8e\x7a") {
		t.Errorf("9 times 9: %x", once)
	}
	for _, x := range []struct{ k, u, want string }{
		{"a546e36bf0527c9d3b16154b82465edd62144c0ac1fc5a18506a2244ba449ac4", "e6db6867583030db3594c1a424b15f7c726624ec26b3353b10a903a6d0ab1c4c", "c3da55379de9c6908e94ea4df28d084f32eccf03491c71f754b4075577a28552"},
		{"4b66e9d4d1b4673c5ad22691957d6af5c11b6421e0ea01d42ca4169e7918ba0d", "e5210f12786811d3f4b7959d0538ae2c31dbe7106fc03c3efc4cd549c715a493", "95cbde9476e8907d7aade45cb4b873f88b595a68799fa152e6f8f7647aac7957"},
	} {
		want(t, "Mult", mult(t, raw(t, x.k), raw(t, x.u)), api.OK, raw(t, x.want))
	}
	k, u := nine, nine
	for range 1000 {
		k, u = mult(t, k, u), k
	}
	want(t, "Mult 1000 times", k, api.OK, raw(t, "684cf59ba83309552800ef566f2f4d3c1c3887c49360e3875f2eb94d99532c51"))
}

// P2.1 and P2.2: the two keys and the secret of RFC 7748, section 6.1.
func TestExampleOfTwo(t *testing.T) {
	first := raw(t, "77076d0a7318a57d3c16c17251b26645df4c2f87ebc0992ab177fba51db92c2a")
	second := raw(t, "5dab087e624a8a4b79e17f8b83800ee66f3bb1292618b6fd1c2f8b27ff88e0eb")
	point1 := raw(t, "8520f0098930a754748b7ddcb43ef75a0dbf3a0d26381af4eba4a98eaa9b4e6a")
	point2 := raw(t, "de9edb7d7b7dc1b4d35b61c2ece435373f8343c85b78674dadfc7e146f882b4f")
	secret := raw(t, "4a5d9d5ba4ce2de1728e3bf480350f25e07e21c947d19e3376f09b3c1e161742")
	want(t, "Base of the first", base(t, first), api.OK, point1)
	want(t, "Base of the second", base(t, second), api.OK, point2)
	want(t, "the first times the second's", mult(t, first, point2), api.OK, secret)
	want(t, "the second times the first's", mult(t, second, point1), api.OK, secret)
}

// P2.1: each bit alone, and with all the others.
func TestClamp(t *testing.T) {
	keys := slices.Concat(edgeKeys(), some(1, 100))
	for i := range uint(256) {
		keys = append(keys, tell(above(i, 0)), tell(new(big.Int).Xor(above(256, -1), above(i, 0))))
	}
	for _, k := range keys {
		n := number(k)
		for _, bit := range []int{0, 1, 2, 255} {
			n.SetBit(n, bit, 0)
		}
		n.SetBit(n, 254, 1)
		s, why := ladder.Clamp(k)
		want(t, "Clamp", s, why, tell(n))
		if n := number(s); n.Cmp(above(254, 0)) < 0 || n.Cmp(above(255, -1)) > 0 || n.Bit(0)+n.Bit(1)+n.Bit(2) != 0 {
			t.Errorf("%x clamped: %x", k, s)
		}
	}
}

// P2.1
func TestAgainstTheLibrary(t *testing.T) {
	points := some(2, 300)
	for i, k := range some(3, len(points)) {
		want(t, "Mult", mult(t, k, points[i]), api.OK, byLibrary(t, k, points[i]))
		want(t, "Base", base(t, k), api.OK, byLibrary(t, k, tell(big.NewInt(9))))
	}
	for _, k := range edgeKeys() {
		want(t, "Base", base(t, k), api.OK, byLibrary(t, k, tell(big.NewInt(9))))
	}
}

// P2.1
func TestEdgesAgainstTheLibrary(t *testing.T) {
	for _, k := range slices.Concat(edgeKeys(), some(4, 2)) {
		for _, u := range edgePoints(t) {
			want(t, "Mult", mult(t, k, u), api.OK, byLibrary(t, k, u))
		}
	}
}

// P2.1: what the library refuses is 0 here, and no error.
func TestLowPoints(t *testing.T) {
	for _, k := range slices.Concat(edgeKeys(), some(5, 10)) {
		for _, u := range lowPoints(t) {
			s, why := ladder.Mult(k, u)
			want(t, "Mult", s, why, nothing)
			s, why = ladder.Mult(k, withHighest(u))
			want(t, "Mult with the highest bit", s, why, nothing)
		}
	}
}

// P2.1: a point's number is taken modulo p, without its highest bit.
func TestPointsPastThePrime(t *testing.T) {
	for _, k := range some(6, 3) {
		for n := range int64(19) {
			s := mult(t, k, tell(big.NewInt(n)))
			want(t, "p and more", mult(t, k, tell(prime(n))), api.OK, s)
			want(t, "2^255 + p and more", mult(t, k, withHighest(tell(prime(n)))), api.OK, s)
		}
	}
}

// P2.1: every bit of a key that is not clamped away, and every bit of a point but the highest, is of account.
func TestEveryBitCounts(t *testing.T) {
	k, u := some(7, 1)[0], some(8, 1)[0]
	was := mult(t, k, u)
	for i := range uint(256) {
		turned := tell(new(big.Int).Xor(number(k), above(i, 0)))
		if same := mult(t, turned, u) == was; same != (i < 3 || i > 253) {
			t.Errorf("bit %d of the key: same %v", i, same)
		}
		turned = tell(new(big.Int).Xor(number(u), above(i, 0)))
		if same := mult(t, k, turned) == was; same != (i > 254) {
			t.Errorf("bit %d of the point: same %v", i, same)
		}
	}
}

// P2.1: no other size than 32 bytes, wherever it stands.
func TestSize(t *testing.T) {
	good := tell(big.NewInt(9))
	check := func(name, s string, why api.Errno) {
		t.Helper()
		if s != "" || why != api.ErrSize {
			t.Errorf("%s: %x, error %d", name, s, why)
		}
	}
	for _, many := range []int{0, 1, 2, 8, 16, 30, 31, 33, 34, 63, 64, 1000} {
		for _, fill := range []string{"\x00", "\x09", "\xff"} {
			bad := strings.Repeat(fill, many)
			s, why := ladder.Clamp(bad)
			check("Clamp", s, why)
			s, why = ladder.Base(bad)
			check("Base", s, why)
			s, why = ladder.Mult(bad, good)
			check("Mult, the key", s, why)
			s, why = ladder.Mult(good, bad)
			check("Mult, the point", s, why)
			s, why = ladder.Mult(bad, bad)
			check("Mult, both", s, why)
		}
	}
}

// P2.2
func TestTwoAgree(t *testing.T) {
	keys := slices.Concat(edgeKeys(), some(9, 10))
	var points []string
	for _, k := range keys {
		points = append(points, base(t, k))
	}
	for i, a := range keys {
		for j, b := range keys[:i] {
			want(t, "a times b's", mult(t, a, points[j]), api.OK, mult(t, b, points[i]))
		}
	}
}

// P2.2
func TestBaseIsMultOfNine(t *testing.T) {
	for _, k := range slices.Concat(edgeKeys(), some(10, 10)) {
		want(t, "Base", base(t, k), api.OK, mult(t, k, tell(big.NewInt(9))))
	}
}

// P2.2
func TestClampedAlready(t *testing.T) {
	u := some(11, 1)[0]
	for _, k := range slices.Concat(edgeKeys(), some(12, 30)) {
		c := clamp(t, k)
		want(t, "clamped again", clamp(t, c), api.OK, c)
		want(t, "Mult by a key clamped", mult(t, c, u), api.OK, mult(t, k, u))
		want(t, "Base of a key clamped", base(t, c), api.OK, base(t, k))
	}
}

// P2.2
func TestHighestBit(t *testing.T) {
	for _, k := range some(13, 3) {
		for _, u := range slices.Concat(edgePoints(t), some(14, 20)) {
			want(t, "the other highest bit", mult(t, k, withHighest(u)), api.OK, mult(t, k, u))
		}
	}
}

func BenchmarkMult(b *testing.B) {
	k, u := some(15, 1)[0], some(16, 1)[0]
	for range b.N {
		ladder.Mult(k, u)
	}
}

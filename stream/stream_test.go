package stream_test

import (
	"crypto/sha256"
	"encoding/binary"
	"encoding/hex"
	"math"
	"math/rand"
	"strings"
	"testing"

	"demurral/api"
	"demurral/stream"
)

const (
	blockSize = 64
	maxBytes  = 4096
	modulus   = 1 << 32
)

var (
	zeroKey   = strings.Repeat("\x00", 32)
	zeroNonce = strings.Repeat("\x00", 12)
	onesKey   = strings.Repeat("\xff", 32)
	onesNonce = strings.Repeat("\xff", 12)
)

// some are bytes without a rule, the same at every run.
func some(seed int64, many int) string {
	b := make([]byte, many)
	rand.New(rand.NewSource(seed)).Read(b)
	return string(b)
}

// rising are the bytes 0, 1, 2 and so on.
func rising(many int) string {
	var b []byte
	for i := range many {
		b = append(b, byte(i))
	}
	return string(b)
}

// turned is the text with one bit of it turned.
func turned(s string, bit int) string {
	b := []byte(s)
	b[bit/8] ^= 1 << (bit % 8)
	return string(b)
}

func raw(t *testing.T, s string) string {
	t.Helper()
	b, err := hex.DecodeString(s)
	if err != nil {
		t.Fatal(err)
	}
	return string(b)
}

// xored is one text xor another of as many bytes, or more.
func xored(a, b string) string {
	out := []byte(a)
	for i := range out {
		out[i] ^= b[i]
	}
	return string(out)
}

type keyAndNonce struct{ key, nonce string }

// pairs are ordinary ones, and such whose bytes are all one.
func pairs() []keyAndNonce {
	out := []keyAndNonce{{zeroKey, zeroNonce}, {onesKey, onesNonce}, {zeroKey, onesNonce}, {onesKey, zeroNonce},
		{rising(32), rising(12)}, {strings.Repeat("\x80", 32), strings.Repeat("\x80", 12)}}
	for i := range int64(6) {
		out = append(out, keyAndNonce{some(i, 32), some(100+i, 12)})
	}
	return out
}

// sizes are those that the chapter's words come to the edge of: of a block, of the whole, and between.
func sizes() []int {
	return []int{0, 1, 2, 3, 4, 31, 32, 62, 63, 64, 65, 66, 127, 128, 129, 191, 192, 193, 1000, 1024, 1025, 2048, maxBytes - 65, maxBytes - 64, maxBytes - 63, maxBytes - 1, maxBytes}
}

// numbers are blocks' own, at the edges of each byte of theirs.
func numbers() []uint32 {
	return []uint32{0, 1, 2, 63, 64, 65, 255, 256, 65535, 65536, 1<<24 - 1, 1 << 24, 1<<31 - 1, 1 << 31, 1<<31 + 1, math.MaxUint32 - 1, math.MaxUint32}
}

func want(t *testing.T, what, got, wanted string) {
	t.Helper()
	if got != wanted {
		t.Errorf("%s: %x; wanted %x", what, got, wanted)
	}
}

func block(t *testing.T, key string, n uint32, nonce string) string {
	t.Helper()
	s, why := stream.Block(key, n, nonce)
	if why != api.OK || len(s) != blockSize {
		t.Fatalf("block %d of %x, %x: %d bytes, error %d", n, key, nonce, len(s), why)
	}
	return s
}

func flow(t *testing.T, key, nonce string, many int) string {
	t.Helper()
	s, why := stream.Stream(key, nonce, many)
	if why != api.OK || len(s) != many {
		t.Fatalf("%d bytes of %x, %x: %d bytes, error %d", many, key, nonce, len(s), why)
	}
	return s
}

func xor(t *testing.T, key, nonce, s string) string {
	t.Helper()
	out, why := stream.Xor(key, nonce, s)
	if why != api.OK || len(out) != len(s) {
		t.Fatalf("%d bytes xor the stream of %x, %x: %d bytes, error %d", len(s), key, nonce, len(out), why)
	}
	return out
}

// rol, and what follows it up to streamByTheWords, is the chapter's words, in numbers of 64 bits: what is modulo 2^32 is written so, and not left to the type.
func rol(w uint64, n int) uint64 { return w*(1<<n)%modulus + w/(modulus>>n) }

func mixedByTheWords(a, b, c, d uint64) [4]uint64 {
	a = (a + b) % modulus
	d = rol(d^a, 16)
	c = (c + d) % modulus
	b = rol(b^c, 12)
	a = (a + b) % modulus
	d = rol(d^a, 8)
	c = (c + d) % modulus
	b = rol(b^c, 7)
	return [4]uint64{a, b, c, d}
}

func wordsOf(key string, n uint32, nonce string) [16]uint64 {
	w := [16]uint64{1634760805, 857760878, 2036477234, 1797285236}
	for i := range 8 {
		w[4+i] = uint64(binary.LittleEndian.Uint32([]byte(key[4*i:])))
	}
	w[12] = uint64(n)
	for i := range 3 {
		w[13+i] = uint64(binary.LittleEndian.Uint32([]byte(nonce[4*i:])))
	}
	return w
}

func blockByTheWords(key string, n uint32, nonce string) string {
	w := wordsOf(key, n, nonce)
	for range 10 {
		for _, p := range [][4]int{{0, 4, 8, 12}, {1, 5, 9, 13}, {2, 6, 10, 14}, {3, 7, 11, 15}, {0, 5, 10, 15}, {1, 6, 11, 12}, {2, 7, 8, 13}, {3, 4, 9, 14}} {
			for i, word := range mixedByTheWords(w[p[0]], w[p[1]], w[p[2]], w[p[3]]) {
				w[p[i]] = word
			}
		}
	}
	var out []byte
	for i, word := range wordsOf(key, n, nonce) {
		out = binary.LittleEndian.AppendUint32(out, uint32((w[i]+word)%modulus))
	}
	return string(out)
}

// streamByTheWords is the longest one, and of a shorter one what it begins as.
func streamByTheWords(key, nonce string) string {
	var out strings.Builder
	for n := range uint32(maxBytes / blockSize) {
		out.WriteString(blockByTheWords(key, n+1, nonce))
	}
	return out.String()
}

// edgeWords are those by which sums wrap at 2^32, or just don't, and single bits, the highest and the lowest among them.
func edgeWords() []uint32 {
	return []uint32{0, 1, 2, 0xffff, 0x10000, 0x7fffffff, 0x80000000, 0x80000001, math.MaxUint32 - 1, math.MaxUint32, 0x01234567, 0x9b8d6f43}
}

func eachFour(check func(a, b, c, d uint32)) {
	l := edgeWords()
	for _, a := range l {
		for _, b := range l {
			for _, c := range l {
				for _, d := range l {
					check(a, b, c, d)
				}
			}
		}
	}
	r := rand.New(rand.NewSource(1))
	for range 100000 {
		check(r.Uint32(), r.Uint32(), r.Uint32(), r.Uint32())
	}
}

// P5.1: the chapter's example, that of RFC 8439's section 2.2.1, and four zeros, which stay.
func TestQuarterExamples(t *testing.T) {
	for _, x := range []struct{ from, to [4]uint32 }{
		{[4]uint32{0x11111111, 0x01020304, 0x9b8d6f43, 0x01234567}, [4]uint32{0xea2a92f4, 0xcb1cf8ce, 0x4581472e, 0x5881c4bb}},
		{[4]uint32{0x516461b1, 0x2a5f714c, 0x53372767, 0x3d631689}, [4]uint32{0xbdb886dc, 0xcfacafd2, 0xe46bea80, 0xccc07c79}},
		{[4]uint32{}, [4]uint32{}},
	} {
		a, b, c, d := stream.Quarter(x.from[0], x.from[1], x.from[2], x.from[3])
		if got := [4]uint32{a, b, c, d}; got != x.to {
			t.Errorf("%x: %x; wanted %x", x.from, got, x.to)
		}
	}
}

// P5.1: sums that wrap at 2^32 among them.
func TestQuarterByTheWords(t *testing.T) {
	eachFour(func(a, b, c, d uint32) {
		wanted := mixedByTheWords(uint64(a), uint64(b), uint64(c), uint64(d))
		e, f, g, h := stream.Quarter(a, b, c, d)
		if got := [4]uint64{uint64(e), uint64(f), uint64(g), uint64(h)}; got != wanted {
			t.Fatalf("%x, %x, %x, %x: %x; wanted %x", a, b, c, d, got, wanted)
		}
	})
}

// unmixed are the four words that are mixed to these.
func unmixed(a, b, c, d uint32) [4]uint32 {
	turn := func(w uint32, n int) uint32 { return w>>n | w<<(32-n) }
	b = turn(b, 7) ^ c
	c -= d
	d = turn(d, 8) ^ a
	a -= b
	b = turn(b, 12) ^ c
	c -= d
	d = turn(d, 16) ^ a
	a -= b
	return [4]uint32{a, b, c, d}
}

// P5.3: what is mixed tells what it was, so that no two sets are mixed to one; and each set is what some other one is mixed to.
func TestQuarterBothWays(t *testing.T) {
	eachFour(func(a, b, c, d uint32) {
		was := [4]uint32{a, b, c, d}
		if got := unmixed(stream.Quarter(a, b, c, d)); got != was {
			t.Fatalf("%x: mixed and back %x", was, got)
		}
		l := unmixed(a, b, c, d)
		e, f, g, h := stream.Quarter(l[0], l[1], l[2], l[3])
		if got := [4]uint32{e, f, g, h}; got != was {
			t.Fatalf("%x: back and mixed %x", was, got)
		}
	})
}

// P5.1: RFC 8439's, of its section 2.3.2 and its appendix A.1, and some of the last number.
func TestBlockExamples(t *testing.T) {
	one := zeroKey[:31] + "\x01"
	second := "\x00\xff" + zeroKey[:30]
	nonce := "\x00\x00\x00\x09\x00\x00\x00\x4a\x00\x00\x00\x00"
	for _, x := range []struct {
		key    string
		n      uint32
		nonce  string
		wanted string
	}{
		{rising(32), 1, nonce, "10f1e7e4d13b5915500fdd1fa32071c4c7d1f4c733c068030422aa9ac3d46c4ed2826446079faa0914c2d705d98b02a2b5129cd1de164eb9cbd083e8a2503c4e"},
		{zeroKey, 0, zeroNonce, "76b8e0ada0f13d90405d6ae55386bd28bdd219b8a08ded1aa836efcc8b770dc7da41597c5157488d7724e03fb8d84a376a43b8f41518a11cc387b669b2ee6586"},
		{zeroKey, 1, zeroNonce, "9f07e7be5551387a98ba977c732d080dcb0f29a048e3656912c6533e32ee7aed29b721769ce64e43d57133b074d839d531ed1f28510afb45ace10a1f4b794d6f"},
		{one, 1, zeroNonce, "3aeb5224ecf849929b9d828db1ced4dd832025e8018b8160b82284f3c949aa5a8eca00bbb4a73bdad192b5c42f73f2fd4e273644c8b36125a64addeb006c13a0"},
		{second, 2, zeroNonce, "72d54dfbf12ec44b362692df94137f328fea8da73990265ec1bbbea1ae9af0ca13b25aa26cb4a648cb9b9d1be65b2c0924a66c54d545ec1b7374f4872e99f096"},
		{zeroKey, 0, zeroNonce[:11] + "\x02", "c2c64d378cd536374ae204b9ef933fcd1a8b2288b3dfa49672ab765b54ee27c78a970e0e955c14f3a88e741b97c286f75f8fc299e8148362fa198a39531bed6d"},
		{zeroKey, math.MaxUint32, zeroNonce, "ace4cd09e294d1912d4ad205d06f95d9c2f2bfcf453e8753f128765b62215f4d92c74f2f626c6a640c0b1284d839ec81f1696281dafc3e684593937023b58b1d"},
		{rising(32), math.MaxUint32, nonce, "ff2941b8d740f6cbb50936bf997ebd5218cb108dc53f41c64841d0218167430ca03b770ca74ccb642a28194d1dedd2ed13151e25ec5d7faeb6d060bfb7e6b146"},
		{onesKey, math.MaxUint32, onesNonce, "d72b21cfa4b6b0c41d61f62b8a11159c6a4f63bc56c2035796c7ad37811121bbec56d54a530f3a933dd28a50feb23bfaf64f405be985f3718bdf4683e96be749"},
		{onesKey, 0, onesNonce, "d6e63495eafed7fc3bf8e7c419fa77be8234a6a49df517ebab06c8f65d9f7a17d3a64d4b97c911e6995b65c79336220cb63b703e25d3d45f5fee90a37bbe0535"},
	} {
		want(t, "Block", block(t, x.key, x.n, x.nonce), raw(t, x.wanted))
	}
}

// P5.1
func TestBlockByTheWords(t *testing.T) {
	for _, p := range pairs() {
		for _, n := range numbers() {
			want(t, "Block", block(t, p.key, n, p.nonce), blockByTheWords(p.key, n, p.nonce))
		}
	}
	r := rand.New(rand.NewSource(2))
	for i := range int64(1000) {
		key, n, nonce := some(1000+i, 32), r.Uint32(), some(2000+i, 12)
		want(t, "Block", block(t, key, n, nonce), blockByTheWords(key, n, nonce))
	}
}

// P5.1: every bit of a key, a number and a nonce is of account, and none of them stands for another's.
func TestEveryBitCounts(t *testing.T) {
	key, n, nonce := some(3, 32), uint32(0x12345678), some(4, 12)
	seen := map[string]bool{block(t, key, n, nonce): true}
	for bit := range 8 * len(key) {
		seen[block(t, turned(key, bit), n, nonce)] = true
	}
	for bit := range 32 {
		seen[block(t, key, n^1<<bit, nonce)] = true
	}
	for bit := range 8 * len(nonce) {
		seen[block(t, key, n, turned(nonce, bit))] = true
	}
	if len(seen) != 1+256+32+96 {
		t.Errorf("%d blocks", len(seen))
	}
}

// wrongPairs are keys and nonces of which one, or both, have no size that may be.
func wrongPairs() []keyAndNonce {
	var out []keyAndNonce
	for _, fill := range []string{"\x00", "k", "\xff"} {
		key, nonce := strings.Repeat(fill, 32), strings.Repeat(fill, 12)
		for _, many := range []int{0, 1, 8, 11, 12, 16, 24, 28, 30, 31, 33, 34, 36, 44, 63, 64, 65, 256, 288, 1 << 16, 1<<16 + 32} {
			out = append(out, keyAndNonce{strings.Repeat(fill, many), nonce})
		}
		for _, many := range []int{0, 1, 4, 8, 10, 11, 13, 14, 16, 24, 32, 64, 256, 268, 1 << 16, 1<<16 + 12} {
			out = append(out, keyAndNonce{key, strings.Repeat(fill, many)})
		}
		out = append(out, keyAndNonce{nonce, key}, keyAndNonce{key[:31], nonce + fill}, keyAndNonce{key + fill, nonce[:11]}, keyAndNonce{})
	}
	return out
}

func wantSize(t *testing.T, what, s string, why api.Errno) {
	t.Helper()
	if s != "" || why != api.ErrSize {
		t.Errorf("%s: %d bytes, error %d", what, len(s), why)
	}
}

// P5.1: whatever the number, and how long the text is, is.
func TestWrongKeysAndNonces(t *testing.T) {
	for _, p := range wrongPairs() {
		for _, n := range numbers() {
			s, why := stream.Block(p.key, n, p.nonce)
			wantSize(t, "Block", s, why)
		}
		for _, many := range []int{0, 1, 32, 64, 65, maxBytes, maxBytes + 1, -1} {
			s, why := stream.Stream(p.key, p.nonce, many)
			wantSize(t, "Stream", s, why)
			s, why = stream.Xor(p.key, p.nonce, strings.Repeat("x", max(many, 0)))
			wantSize(t, "Xor", s, why)
		}
	}
}

// P5.2: no other counts, nor such as have one that may be in their lowest bits.
func TestWrongMany(t *testing.T) {
	for _, p := range pairs() {
		for _, many := range []int{-1, -2, -63, -64, -65, -maxBytes, -modulus, -modulus + 1, math.MinInt32, math.MinInt, math.MinInt + 1, math.MinInt + 64,
			maxBytes + 1, maxBytes + 2, maxBytes + 63, maxBytes + 64, 8192, 1 << 16, 1<<16 + 1, math.MaxInt32, modulus, modulus + 64, math.MaxInt - 63, math.MaxInt} {
			s, why := stream.Stream(p.key, p.nonce, many)
			wantSize(t, "Stream", s, why)
		}
		for _, many := range []int{maxBytes + 1, maxBytes + 2, maxBytes + 64, 8192, 1 << 16, 1<<16 + 1, 1 << 20} {
			s, why := stream.Xor(p.key, p.nonce, strings.Repeat("x", many))
			wantSize(t, "Xor", s, why)
		}
	}
}

// P5.2: the sums of three longest streams, as another program tells them.
func TestStreamExamples(t *testing.T) {
	for _, x := range []struct{ key, nonce, wanted string }{
		{rising(32), zeroNonce[:7] + "\x4a" + zeroNonce[:4], "03e37045b672bfe4c0c0265ac4ea21d51eda7e5de4f812ecc13bbdeaf7c9fa41"},
		{zeroKey, zeroNonce, "b9b2ca9fc184eeee031a4e0fb030f49bc44875cdf45ad36f68c62a937f2f4ccd"},
		{onesKey, onesNonce, "22d957be011466171f05836c4487dcf6c0e36d8a97263dcaf2f21b4c5e9653c0"},
	} {
		sum := sha256.Sum256([]byte(flow(t, x.key, x.nonce, maxBytes)))
		want(t, "the sum of a stream", string(sum[:]), raw(t, x.wanted))
	}
}

// P5.2: that of RFC 8439's section 2.4.2.
func TestXorExample(t *testing.T) {
	text := "Ladies and Gentlemen of the class of '99: If I could offer you only one tip for the future, sunscreen would be it."
	wanted := "6e2e359a2568f98041ba0728dd0d6981e97e7aec1d4360c20a27afccfd9fae0bf91b65c5524733ab8f593dabcd62b3571639d624e65152ab8f530c359f0861d807ca0dbf500d6a6156a38e088a22b65e52bc514d16ccf806818ce91ab77937365af90bbf74a35be6b40b8eedf2785e42874d"
	want(t, "Xor", xor(t, rising(32), zeroNonce[:7]+"\x4a"+zeroNonce[:4], text), raw(t, wanted))
}

// P5.2
func TestStreamByTheWords(t *testing.T) {
	for _, p := range pairs() {
		all := streamByTheWords(p.key, p.nonce)
		for _, many := range sizes() {
			want(t, "Stream", flow(t, p.key, p.nonce, many), all[:many])
		}
	}
}

// P5.2: the blocks of 1, 2, 3 and so on, and none of 0.
func TestStreamIsItsBlocks(t *testing.T) {
	for _, p := range pairs() {
		all := flow(t, p.key, p.nonce, maxBytes)
		for i := range maxBytes / blockSize {
			want(t, "the stream's block", all[blockSize*i:blockSize*(i+1)], block(t, p.key, uint32(i+1), p.nonce))
		}
		if strings.HasPrefix(all, block(t, p.key, 0, p.nonce)) {
			t.Error("the stream begins with block 0")
		}
	}
}

// P5.2
func TestXorByTheWords(t *testing.T) {
	for _, p := range pairs() {
		all := streamByTheWords(p.key, p.nonce)
		for i, many := range sizes() {
			for _, s := range []string{some(int64(300+i), many), strings.Repeat("\x00", many), strings.Repeat("\xff", many), strings.Repeat("é", many)[:many]} {
				want(t, "Xor", xor(t, p.key, p.nonce, s), xored(s, all))
			}
			want(t, "Xor of the stream", xor(t, p.key, p.nonce, all[:many]), strings.Repeat("\x00", many))
		}
	}
}

// P5.3
func TestTwiceIsAsItWas(t *testing.T) {
	for _, p := range pairs() {
		for many := 0; many <= maxBytes; many += 1 + many/50 {
			s := some(int64(many), many)
			want(t, "twice", xor(t, p.key, p.nonce, xor(t, p.key, p.nonce, s)), s)
		}
		s := some(5, maxBytes)
		want(t, "twice", xor(t, p.key, p.nonce, xor(t, p.key, p.nonce, s)), s)
	}
}

// P5.3: of every size that may be; and a text's beginning is xor the stream's.
func TestLongerBeginsAsShorter(t *testing.T) {
	key, nonce, s := some(6, 32), some(7, 12), some(8, maxBytes)
	all, whole := flow(t, key, nonce, maxBytes), xor(t, key, nonce, s)
	for many := range maxBytes + 1 {
		want(t, "Stream", flow(t, key, nonce, many), all[:many])
		want(t, "Xor", xor(t, key, nonce, s[:many]), whole[:many])
	}
}

// R1: no answer hangs on a call ahead of it.
func TestNothingIsKept(t *testing.T) {
	key, nonce := some(9, 32), some(10, 12)
	b, s, x := block(t, key, 7, nonce), flow(t, key, nonce, 200), xor(t, key, nonce, "text")
	block(t, nonce+key[:20], 8, key[:12])
	flow(t, onesKey, onesNonce, maxBytes)
	xor(t, zeroKey, onesNonce, "another")
	want(t, "Block again", block(t, key, 7, nonce), b)
	want(t, "Stream again", flow(t, key, nonce, 200), s)
	want(t, "Xor again", xor(t, key, nonce, "text"), x)
}

func FuzzAll(f *testing.F) {
	f.Add(rising(32), zeroNonce, "text", 130, uint32(1))
	f.Add(onesKey, onesNonce, some(11, maxBytes), maxBytes, uint32(math.MaxUint32))
	f.Add(zeroKey, zeroNonce, some(12, maxBytes+1), maxBytes+1, uint32(0))
	f.Add("short", zeroNonce, "", -1, uint32(2))
	f.Add(zeroKey, "short", "", 0, uint32(3))
	f.Fuzz(func(t *testing.T, key, nonce, s string, many int, n uint32) {
		got, why := stream.Block(key, n, nonce)
		part, why2 := stream.Stream(key, nonce, many)
		out, why3 := stream.Xor(key, nonce, s)
		if len(key) != 32 || len(nonce) != 12 {
			wantSize(t, "Block", got, why)
			wantSize(t, "Stream", part, why2)
			wantSize(t, "Xor", out, why3)
			return
		}
		want(t, "Block", block(t, key, n, nonce), blockByTheWords(key, n, nonce))
		all := streamByTheWords(key, nonce)
		if many < 0 || many > maxBytes {
			wantSize(t, "Stream", part, why2)
		} else {
			want(t, "Stream", flow(t, key, nonce, many), all[:many])
		}
		if len(s) > maxBytes {
			wantSize(t, "Xor", out, why3)
		} else {
			want(t, "Xor", xor(t, key, nonce, s), xored(s, all))
		}
	})
}

func BenchmarkBlock(b *testing.B) {
	for range b.N {
		stream.Block(zeroKey, 1, zeroNonce)
	}
}

func BenchmarkXor(b *testing.B) {
	s := some(13, 1024)
	b.SetBytes(int64(len(s)))
	for range b.N {
		stream.Xor(zeroKey, zeroNonce, s)
	}
}

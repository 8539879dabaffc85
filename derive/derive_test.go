package derive_test

import (
	"crypto/hkdf"
	"crypto/hmac"
	"crypto/sha256"
	"encoding/hex"
	"math"
	"math/rand"
	"slices"
	"strings"
	"testing"
	"time"

	"demurral/api"
	"demurral/derive"
	"demurral/digest"
)

const (
	block    = 64
	maxKeys  = 255
	maxBytes = 8160
)

// some are bytes without a rule, the same at every run.
func some(seed int64, many int) string {
	b := make([]byte, many)
	rand.New(rand.NewSource(seed)).Read(b)
	return string(b)
}

// turned is the text with one bit of it turned.
func turned(s string, bit int) string {
	b := []byte(s)
	b[bit/8] ^= 1 << (bit % 8)
	return string(b)
}

func raw(t *testing.T, s string) string {
	t.Helper()
	b, err := hex.DecodeString(s)
	if err != nil {
		t.Fatal(err)
	}
	return string(b)
}

// keys are of the sizes that the chapter names, and of others: without a rule, of bytes 0 and of bytes 255, and of the masks, which then leave 0.
func keys() []string {
	var out []string
	for i, many := range []int{0, 1, 2, 4, 13, 31, 32, 33, 55, 56, 62, 63, 64, 65, 66, 119, 120, 127, 128, 129, 131, 1000} {
		out = append(out, some(int64(i), many))
		for _, fill := range []string{"\x00", "\xff", "\x36", "\x5c", "\x80"} {
			out = append(out, strings.Repeat(fill, many))
		}
	}
	return out
}

// texts are of the sizes at which what is summed, of a block and more, comes to one block more.
func texts() []string {
	var out []string
	for i, many := range []int{0, 1, 2, 8, 31, 32, 33, 54, 55, 56, 57, 63, 64, 65, 119, 120, 127, 128, 129, 300, 1024} {
		out = append(out, some(int64(100+i), many), strings.Repeat("\x00", many), strings.Repeat("\xff", many))
	}
	return append(out, "lock", "root", "step", "grüße", "a\x00b")
}

// counts are how many bytes a secret is expanded to: the edges that the chapter names, those next to them, and where the counted byte is one by which a rune has two.
func counts() []int {
	return []int{0, 1, 2, 31, 32, 33, 42, 63, 64, 65, 82, 96, 97, 1000, 127 * 32, 127*32 + 1, 128 * 32, 129 * 32, 254*32 - 1, 254 * 32, 254*32 + 1, maxBytes - 1, maxBytes}
}

func want(t *testing.T, what, got, wanted string) {
	t.Helper()
	if got != wanted {
		t.Errorf("%s: %x; wanted %x", what, got, wanted)
	}
}

func expand(t *testing.T, secret, word string, many int) string {
	t.Helper()
	s, why := derive.Expand(secret, word, many)
	if why != api.OK || len(s) != many {
		t.Fatalf("%x expanded by %x to %d: %d bytes, error %d", secret, word, many, len(s), why)
	}
	return s
}

func split(t *testing.T, secret, word string, many int) []string {
	t.Helper()
	out, why := derive.Split(secret, word, many)
	if why != api.OK || len(out) != many {
		t.Fatalf("%x split by %x to %d: %d keys, error %d", secret, word, many, len(out), why)
	}
	return out
}

func tagByLibrary(key, s string) string {
	m := hmac.New(sha256.New, []byte(key))
	m.Write([]byte(s))
	return string(m.Sum(nil))
}

func extractByLibrary(t *testing.T, salt, secret string) string {
	t.Helper()
	b, err := hkdf.Extract(sha256.New, []byte(secret), []byte(salt))
	if err != nil {
		t.Fatal(err)
	}
	return string(b)
}

func expandByLibrary(t *testing.T, secret, word string, many int) string {
	t.Helper()
	b, err := hkdf.Expand(sha256.New, []byte(secret), word, many)
	if err != nil {
		t.Fatal(err)
	}
	return string(b)
}

// P4.1: the chapter's example, and those of RFC 4231.
func TestTagExamples(t *testing.T) {
	if s := derive.Tag("Jefe", "what do ya want for nothing?"); !strings.HasPrefix(s, "\x5b\xdc\xc1\x46") {
		t.Errorf("%x", s)
	}
	long := strings.Repeat("\xaa", 131)
	for _, x := range []struct{ key, s, wanted string }{
		{strings.Repeat("\x0b", 20), "Hi There", "b0344c61d8db38535ca8afceaf0bf12b881dc200c9833da726e9376c2e32cff7"},
		{"Jefe", "what do ya want for nothing?", "5bdcc146bf60754e6a042426089575c75a003f089d2739839dec58b964ec3843"},
		{strings.Repeat("\xaa", 20), strings.Repeat("\xdd", 50), "773ea91e36800e46854db8ebd09181a72959098b3ef8c122d9635514ced565fe"},
		{raw(t, "0102030405060708090a0b0c0d0e0f10111213141516171819"), strings.Repeat("\xcd", 50), "82558a389a443c0ea4cc819899f2083a85f0faa3e578f8077a2e3ff46729665b"},
		{long, "Test Using Larger Than Block-Size Key - Hash Key First", "60e431591ee0b67f0d8a26aacbf5b77f8e0bc6213728c5140546040f0ee37f54"},
		{long, "This is a test using a larger than block-size key and a larger than block-size data. The key needs to be hashed before being used by the HMAC algorithm.", "9b09ffa71b942fcb27635fbcd5b0e944bfdc63644f0713938a7f51535c3a35e2"},
	} {
		want(t, "Tag", derive.Tag(x.key, x.s), raw(t, x.wanted))
	}
}

// P4.1: the three of RFC 5869 that are of SHA-256.
func TestSecretExamples(t *testing.T) {
	rising := func(from, to int) string {
		var b []byte
		for i := from; i <= to; i++ {
			b = append(b, byte(i))
		}
		return string(b)
	}
	for _, x := range []struct {
		secret, salt, word, extracted, expanded string
	}{
		{strings.Repeat("\x0b", 22), rising(0, 0x0c), rising(0xf0, 0xf9),
			"077709362c2e32df0ddc3f0dc47bba6390b6c73bb50f9c3122ec844ad7c2b3e5",
			"3cb25f25faacd57a90434f64d0362f2a2d2d0a90cf1a5a4c5db02d56ecc4c5bf34007208d5b887185865"},
		{rising(0, 0x4f), rising(0x60, 0xaf), rising(0xb0, 0xff),
			"06a6b88c5853361a06104c9ceb35b45cef760014904671014a193f40c15fc244",
			"b11e398dc80327a1c8e7f78c596a49344f012eda2d4efad8a050cc4c19afa97c59045a99cac7827271cb41c65e590e09da3275600c2f09b8367793a9aca3db71cc30c58179ec3e87c14c01d5c1f3434f1d87"},
		{strings.Repeat("\x0b", 22), "", "",
			"19ef24a32c717b167f33a91d6f648bdf96596776afdb6377ac434c1c293ccb04",
			"8da4e775a563c18f715f802a063c5a31b8a11f5c5ee1879ec3454e5f3c738d2d9d201395faa4b61a96c8"},
	} {
		extracted := derive.Extract(x.salt, x.secret)
		want(t, "Extract", extracted, raw(t, x.extracted))
		want(t, "Expand", expand(t, extracted, x.word, len(x.expanded)/2), raw(t, x.expanded))
	}
}

// P4.1
func TestTagAgainstTheLibrary(t *testing.T) {
	for _, key := range keys() {
		for _, s := range texts() {
			want(t, "Tag", derive.Tag(key, s), tagByLibrary(key, s))
		}
	}
	long := some(1, 1<<20)
	want(t, "a long text", derive.Tag("key", long), tagByLibrary("key", long))
	want(t, "a long key", derive.Tag(long, "text"), tagByLibrary(long, "text"))
}

// P4.1: a tag as the chapter's words tell it, with one key of each size to three blocks.
func TestTagByTheWords(t *testing.T) {
	for many := range 3*block + 1 {
		key, s := some(2, many), some(3, 200-many)
		short := key
		if len(short) > block {
			short = digest.Of(short)
		}
		short += strings.Repeat("\x00", block-len(short))
		var inner, outer []byte
		for i := range block {
			inner, outer = append(inner, short[i]^54), append(outer, short[i]^92)
		}
		want(t, "Tag", derive.Tag(key, s), digest.Of(string(outer)+digest.Of(string(inner)+s)))
	}
}

// P4.1: a key of 64 bytes is itself, one of 65 its sum.
func TestLongKeyIsItsSum(t *testing.T) {
	for _, many := range []int{65, 66, 127, 128, 129, 1000} {
		key := some(4, many)
		want(t, "Tag", derive.Tag(key, "text"), derive.Tag(digest.Of(key), "text"))
	}
	for _, many := range []int{0, 1, 32, 63, 64} {
		key := some(4, many)
		if derive.Tag(key, "text") == derive.Tag(digest.Of(key), "text") {
			t.Errorf("%d bytes: as their sum", many)
		}
	}
}

// P4.1: every bit of a key and of a text is of account.
func TestEveryBitCounts(t *testing.T) {
	for _, many := range []int{1, 63, 64, 65, 130} {
		key, s := some(5, many), some(6, many)
		seen := map[string]bool{derive.Tag(key, s): true}
		for bit := range 8 * many {
			seen[derive.Tag(turned(key, bit), s)] = true
			seen[derive.Tag(key, turned(s, bit))] = true
		}
		if len(seen) != 1+16*many {
			t.Errorf("%d bytes: %d tags", many, len(seen))
		}
	}
}

// P4.1: the salt is the key, and the secret the text.
func TestExtract(t *testing.T) {
	for _, salt := range keys() {
		for _, secret := range []string{"", "x", "hello", some(7, 32), some(8, 64), some(9, 128), some(10, 300)} {
			got := derive.Extract(salt, secret)
			want(t, "Extract", got, extractByLibrary(t, salt, secret))
			want(t, "Extract", got, derive.Tag(salt, secret))
		}
	}
	if derive.Extract("salt", "secret") == derive.Extract("secret", "salt") {
		t.Error("the salt and the secret are exchanged, and the same")
	}
}

// P4.1
func TestExpandAgainstTheLibrary(t *testing.T) {
	words := []string{"", "x", "lock", "root", "step", some(11, 22), some(12, 23), some(13, 31), some(14, 64), some(15, 300), strings.Repeat("\x00", 32)}
	for _, secret := range []string{"", "x", some(16, 32), some(17, 63), some(18, 64), some(19, 65), some(20, 500)} {
		for _, word := range words {
			for _, many := range counts() {
				want(t, "Expand", expand(t, secret, word, many), expandByLibrary(t, secret, word, many))
			}
		}
	}
}

// P4.1: T1 to T255 as the chapter's words tell them.
func TestExpandByTheWords(t *testing.T) {
	secret, word := some(21, 32), "word"
	last, wanted := "", ""
	for n := 1; n <= maxKeys; n++ {
		last = tagByLibrary(secret, last+word+string([]byte{byte(n)}))
		wanted += last
		want(t, "Expand", expand(t, secret, word, 32*n), wanted)
	}
}

// P4.1: no other sizes, whatever the secret and the word.
func TestExpandWrong(t *testing.T) {
	for _, many := range []int{-1, -2, -31, -32, -33, -maxBytes, math.MinInt32, math.MinInt, math.MinInt + 1, -1 << 56,
		maxBytes + 1, maxBytes + 2, maxBytes + 31, maxBytes + 32, 1 << 16, math.MaxInt32, 1 << 32, 1<<32 + 1, math.MaxInt - 31, math.MaxInt} {
		for _, secret := range []string{"", "secret", some(22, 65)} {
			for _, word := range []string{"", "word", some(23, 65)} {
				if s, why := derive.Expand(secret, word, many); s != "" || why != api.ErrSize {
					t.Errorf("to %d: %d bytes, error %d", many, len(s), why)
				}
			}
		}
	}
}

// P4.1: the keys are what is expanded, cut.
func TestSplit(t *testing.T) {
	for _, secret := range []string{"", "secret", some(24, 32), some(25, 64), some(26, 65)} {
		for _, word := range []string{"", "lock", "root", some(27, 100)} {
			all := expandByLibrary(t, secret, word, maxBytes)
			for many := range maxKeys + 1 {
				for i, key := range split(t, secret, word, many) {
					want(t, "Split", key, all[32*i:32*i+32])
				}
			}
		}
	}
}

// P4.1: no other counts, nor such as come to a size that may be when they are multiplied.
func TestSplitWrong(t *testing.T) {
	for _, many := range []int{-1, -2, -32, -maxKeys, -maxBytes, math.MinInt32, math.MinInt, math.MinInt + 1, -1 << 59, -1<<59 + 1,
		maxKeys + 1, maxKeys + 2, maxBytes, maxBytes + 1, 1 << 16, 1 << 27, 1 << 32, 1<<32 + 1, 1 << 58, 1 << 59, 1<<59 + 1, 1<<60 + 255, math.MaxInt} {
		for _, secret := range []string{"", "secret", some(28, 65)} {
			if out, why := derive.Split(secret, "word", many); len(out) != 0 || why != api.ErrSize {
				t.Errorf("to %d: %d keys, error %d", many, len(out), why)
			}
		}
	}
}

// P4.1: a secret and a word are not one text, and both are of account.
func TestSecretAndWord(t *testing.T) {
	seen := map[string]bool{}
	for _, x := range [][2]string{{"ab", "c"}, {"a", "bc"}, {"", "abc"}, {"abc", ""}, {"c", "ab"}, {"ab", "d"}, {"ab", "c\x00"}, {"ab", "c\x01"}} {
		seen[expand(t, x[0], x[1], 64)] = true
	}
	if len(seen) != 8 {
		t.Errorf("%d of 8", len(seen))
	}
}

// P4.2: the same bytes, at another place in memory too.
func TestSame(t *testing.T) {
	for many := range 300 {
		a := some(29, many)
		checkSame(t, a, a, true)
		checkSame(t, a, strings.Clone(a), true)
		checkSame(t, some(30, many)+a, some(30, many)+a, true)
		for _, s := range []string{"\x00", "\xff", "é"} {
			checkSame(t, strings.Repeat(s, many), strings.Repeat(s, many), true)
		}
	}
}

// P4.2: one bit, wherever it stands, the first byte's and the last one's among them.
func TestSameOfOneBit(t *testing.T) {
	for _, many := range []int{1, 2, 3, 7, 8, 9, 16, 31, 32, 33, 64, 65, 100} {
		a := some(31, many)
		for bit := range 8 * many {
			checkSame(t, a, turned(a, bit), false)
		}
	}
	for b := range 256 {
		for other := range 256 {
			checkSame(t, string([]byte{byte(b)}), string([]byte{byte(other)}), b == other)
		}
	}
}

// P4.2: where several bytes differ, none makes up for another.
func TestSameOfManyBytes(t *testing.T) {
	checkSame(t, "ab", "ba", false)
	checkSame(t, "aabb", "bbaa", false)
	checkSame(t, "\x01\x01", "\x00\x00", false)
	checkSame(t, "\x01\xff", "\x00\x00", false)
	checkSame(t, "\x80\x80", "\x00\x00", false)
	checkSame(t, strings.Repeat("\x01", 256), strings.Repeat("\x00", 256), false)
	for i := range 100 {
		checkSame(t, some(int64(100+i), 32), some(int64(200+i), 32), false)
	}
}

// P4.2: texts of which one begins, or ends, as the other one, or has bytes 0 behind.
func TestSameOfLengths(t *testing.T) {
	for _, many := range []int{0, 1, 2, 31, 32, 33, 64, 255, 256, 257} {
		a := some(32, many)
		for _, more := range []int{1, 2, 3, 32, 255, 256, 512, 1 << 16, 1 << 17} {
			for _, fill := range []string{"\x00", "\x01", "\xff"} {
				checkSame(t, a, a+strings.Repeat(fill, more), false)
				checkSame(t, a, strings.Repeat(fill, more)+a, false)
			}
		}
		checkSame(t, strings.Repeat("\x00", many), strings.Repeat("\x00", many+1), false)
	}
	checkSame(t, "a", "ab", false)
	checkSame(t, "", "\x01", false)
	checkSame(t, "\x01\x01\x00", "\x01\x01", false)
}

func checkSame(t *testing.T, a, b string, wanted bool) {
	t.Helper()
	if derive.Same(a, b) != wanted || derive.Same(b, a) != wanted {
		t.Errorf("%d bytes %.80x and %d bytes %.80x: same %v, the other way round %v", len(a), a, len(b), b, derive.Same(a, b), derive.Same(b, a))
	}
}

// P4.2: all bytes of the longer text are looked at, wherever a difference stands. One that stopped there would be a thousand times as fast, so that a fiftieth is far from what a busy machine does.
func TestSameLooksAtAll(t *testing.T) {
	long := strings.Repeat("x", 1<<21)
	whole := fastest(long, strings.Clone(long))
	for name, other := range map[string]string{
		"the first byte":  turned(long, 0),
		"the second byte": turned(long, 8),
		"one byte more":   long + "x",
		"half as long":    long[:len(long)/2],
		"one byte":        "x",
		"nothing":         "",
	} {
		if took := min(fastest(long, other), fastest(other, long)); took < whole/50 {
			t.Errorf("%s: %v; of the same %v", name, took, whole)
		}
	}
}

func fastest(a, b string) time.Duration {
	out := time.Hour
	for range 10 {
		start := time.Now()
		derive.Same(a, b)
		out = min(out, time.Since(start))
	}
	return out
}

// P4.3: to every size that may be.
func TestExpandBeginsAsFewer(t *testing.T) {
	for _, x := range [][2]string{{"", ""}, {some(33, 32), "word"}, {some(34, 65), some(35, 100)}} {
		all := expand(t, x[0], x[1], maxBytes)
		for many := 0; many <= maxBytes; many += 1 + many/300 {
			want(t, "Expand", expand(t, x[0], x[1], many), all[:many])
		}
		keys := split(t, x[0], x[1], maxKeys)
		for many := range maxKeys + 1 {
			if !slices.Equal(split(t, x[0], x[1], many), keys[:many]) {
				t.Errorf("%d keys", many)
			}
		}
	}
}

// P4.3: all that tags are has 32 bytes, and so has a key.
func TestSizes(t *testing.T) {
	for _, key := range keys() {
		for _, s := range texts() {
			if derive.Tag(key, s) == "" || len(derive.Tag(key, s)) != api.Size || len(derive.Extract(key, s)) != api.Size {
				t.Errorf("%x, %x: no 32 bytes", key, s)
			}
		}
	}
	for _, key := range split(t, "secret", "word", maxKeys) {
		if len(key) != api.Size {
			t.Errorf("a key of %d bytes", len(key))
		}
	}
}

// P4.3: to 64 bytes; with one more it is another key, and so it is with bytes 0 ahead.
func TestZerosBehindAKey(t *testing.T) {
	for many := range block + 1 {
		key := some(36, many)
		was, row := derive.Tag(key, "text"), expand(t, key, "word", 100)
		for zeros := range block - many + 1 {
			padded := key + strings.Repeat("\x00", zeros)
			want(t, "Tag", derive.Tag(padded, "text"), was)
			want(t, "Extract", derive.Extract(padded, "text"), was)
			want(t, "Expand", expand(t, padded, "word", 100), row)
		}
		if derive.Tag(key+strings.Repeat("\x00", block+1-many), "text") == was {
			t.Errorf("%d bytes, with zeros to 65: the same tag", many)
		}
		if many > 0 && many < block && derive.Tag("\x00"+key, "text") == was {
			t.Errorf("%d bytes, a zero ahead: the same tag", many)
		}
	}
	key := some(37, block+1)
	if derive.Tag(key, "text") == derive.Tag(key+"\x00", "text") {
		t.Error("a zero behind 65 bytes: the same tag")
	}
	if derive.Tag("key", "text") == derive.Tag("key", "text\x00") {
		t.Error("a zero behind a text: the same tag")
	}
}

// R1: no answer hangs on a call ahead of it, nor on what became of an answer.
func TestNothingIsKept(t *testing.T) {
	first := split(t, "secret", "word", 3)
	again := split(t, "secret", "word", 3)
	clear(first)
	if !slices.Equal(again, split(t, "secret", "word", 3)) || again[0] == "" {
		t.Error("keys are shared")
	}
	tag := derive.Tag("key", "text")
	derive.Tag("another", "one")
	expand(t, "key", "text", 100)
	want(t, "Tag again", derive.Tag("key", "text"), tag)
}

func FuzzAll(f *testing.F) {
	f.Add("", "", 0)
	f.Add("Jefe", "what do ya want for nothing?", 42)
	f.Add(some(38, 64), some(39, 64), maxBytes)
	f.Add(some(40, 65), some(41, 65), maxBytes+1)
	f.Add("\x00", "", -1)
	f.Fuzz(func(t *testing.T, key, s string, many int) {
		want(t, "Tag", derive.Tag(key, s), tagByLibrary(key, s))
		want(t, "Extract", derive.Extract(key, s), extractByLibrary(t, key, s))
		checkSame(t, key, s, key == s)
		got, why := derive.Expand(key, s, many)
		if many < 0 || many > maxBytes {
			if got != "" || why != api.ErrSize {
				t.Fatalf("%d bytes, error %d", len(got), why)
			}
			return
		}
		want(t, "Expand", got, expandByLibrary(t, key, s, many))
	})
}

func BenchmarkTag(b *testing.B) {
	key := some(42, 32)
	for range b.N {
		derive.Tag(key, "text")
	}
}

func BenchmarkSplit(b *testing.B) {
	key := some(43, 32)
	for range b.N {
		derive.Split(key, "lock", 3)
	}
}

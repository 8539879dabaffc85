package lock_test

import (
	"crypto/hkdf"
	"crypto/hmac"
	"crypto/sha256"
	"encoding/binary"
	"encoding/hex"
	"math/rand"
	"strings"
	"testing"

	"demurral/api"
	"demurral/lock"
	"demurral/stream"
)

const (
	maxText   = 1024
	maxLocked = 1056
	tagSize   = 32
)

// some are bytes without a rule, the same at every run.
func some(seed int64, many int) string {
	b := make([]byte, many)
	rand.New(rand.NewSource(seed)).Read(b)
	return string(b)
}

// rising are the bytes 0, 1, 2 and so on.
func rising(many int) string {
	var b []byte
	for i := range many {
		b = append(b, byte(i))
	}
	return string(b)
}

// turned is the text with one bit of it turned.
func turned(s string, bit int) string {
	b := []byte(s)
	b[bit/8] ^= 1 << (bit % 8)
	return string(b)
}

// xored is one text xor another of as many bytes, or more.
func xored(a, b string) string {
	out := []byte(a)
	for i := range out {
		out[i] ^= b[i]
	}
	return string(out)
}

func raw(t *testing.T, s string) string {
	t.Helper()
	b, err := hex.DecodeString(s)
	if err != nil {
		t.Fatal(err)
	}
	return string(b)
}

// keys are ordinary ones, and such whose bytes are all one.
func keys() []string {
	out := []string{rising(32)}
	for _, fill := range []string{"\x00", "k", "\x80", "\xff"} {
		out = append(out, strings.Repeat(fill, 32))
	}
	for i := range int64(4) {
		out = append(out, some(i, 32))
	}
	return out
}

// sizes are those of heads, texts and bytes: the edges that the chapter names, those of a stream's block and a tag, and those at which a head's size comes to its second byte.
func sizes() []int {
	return []int{0, 1, 2, 4, 31, 32, 33, 63, 64, 65, 127, 128, 255, 256, 257, 511, 512, 513, 767, 768, 1000, 1022, 1023, maxText}
}

// texts are of each size: without a rule, and of bytes that are all one.
func texts(many int) []string {
	out := []string{some(int64(1000+many), many)}
	for _, fill := range []string{"\x00", "\xff"} {
		out = append(out, strings.Repeat(fill, many))
	}
	return append(out, strings.Repeat("é", many)[:many])
}

func want(t *testing.T, what, got, wanted string) {
	t.Helper()
	if got != wanted {
		t.Errorf("%s: %x; wanted %x", what, got, wanted)
	}
}

func wantError(t *testing.T, what, s string, why, wanted api.Errno) {
	t.Helper()
	if s != "" || why != wanted {
		t.Errorf("%s: %d bytes, error %d; wanted error %d", what, len(s), why, wanted)
	}
}

func keysOf(t *testing.T, key string) (hide, tag, nonce string) {
	t.Helper()
	hide, tag, nonce, why := lock.Keys(key)
	if why != api.OK {
		t.Fatalf("keys of %x: error %d", key, why)
	}
	return hide, tag, nonce
}

func locked(t *testing.T, key, head, text string) string {
	t.Helper()
	s, why := lock.Lock(key, head, text)
	if why != api.OK || len(s) != len(text)+tagSize {
		t.Fatalf("%d bytes, with a head of %d, locked by %x: %d bytes, error %d", len(text), len(head), key, len(s), why)
	}
	return s
}

func opened(t *testing.T, key, head, s string) string {
	t.Helper()
	text, why := lock.Open(key, head, s)
	if why != api.OK || len(text) != len(s)-tagSize {
		t.Fatalf("%d bytes, with a head of %d, opened by %x: %d bytes, error %d", len(s), len(head), key, len(text), why)
	}
	return text
}

func again(t *testing.T, tagKey, head, bytes string) string {
	t.Helper()
	s, why := lock.Again(tagKey, head, bytes)
	if why != api.OK || len(s) != len(bytes)+tagSize {
		t.Fatalf("%d bytes, with a head of %d, tagged by %x: %d bytes, error %d", len(bytes), len(head), tagKey, len(s), why)
	}
	return s
}

func refused(t *testing.T, what, key, head, s string) {
	t.Helper()
	text, why := lock.Open(key, head, s)
	wantError(t, what, text, why, api.ErrAuth)
}

// keysByLibrary, and what follows it up to lockedByTheWords, is the chapter's words, with the library's HKDF and HMAC.
func keysByLibrary(t *testing.T, key string) (hide, tag, nonce string) {
	t.Helper()
	b, err := hkdf.Expand(sha256.New, []byte(key), "lock", 96)
	if err != nil {
		t.Fatal(err)
	}
	return string(b[:32]), string(b[32:64]), string(b[64:76])
}

func tagByLibrary(key string, parts ...string) string {
	m := hmac.New(sha256.New, []byte(key))
	for _, s := range parts {
		m.Write([]byte(s))
	}
	return string(m.Sum(nil))
}

func sizeOf(head string) string {
	return string(binary.BigEndian.AppendUint16(nil, uint16(len(head))))
}

func taggedByTheWords(tagKey, head, bytes string) string {
	return bytes + tagByLibrary(tagKey, sizeOf(head), head, bytes)
}

func hiddenByTheWords(t *testing.T, key, text string) string {
	t.Helper()
	hide, _, nonce := keysByLibrary(t, key)
	s, why := stream.Stream(hide, nonce, len(text))
	if why != api.OK {
		t.Fatalf("a stream of %d bytes: error %d", len(text), why)
	}
	return xored(text, s)
}

func lockedByTheWords(t *testing.T, key, head, text string) string {
	t.Helper()
	_, tag, _ := keysByLibrary(t, key)
	return taggedByTheWords(tag, head, hiddenByTheWords(t, key, text))
}

// P6.1: the chapter's, a text of no bytes.
func TestNoText(t *testing.T) {
	for _, key := range keys() {
		for _, many := range sizes() {
			head := some(10, many)
			s := locked(t, key, head, "")
			if len(s) != 32 {
				t.Errorf("%d bytes", len(s))
			}
			want(t, "the text", opened(t, key, head, s), "")
		}
	}
}

// P6.1, P6.2: as other programs tell them.
func TestExamples(t *testing.T) {
	for _, x := range []struct{ key, head, text, hide, tag, nonce, locked string }{
		{strings.Repeat("k", 32), "head", "text",
			"1b8ac6c0b9ac6574e9b9766881719d4e7cc6bb51096cc257a332483a425063a4", "bd423931c7f2c3b714c84beb1ce38abb4d4b99174a3ec62fdda20827f7a55be8", "8931a93a4af1590e0f5284e8",
			"6ab2e4b45b542ca75b91deb0649ecb6ac4395784535f7775d3e811b5d95f8beb062ae061"},
		{strings.Repeat("\x00", 32), "", "",
			"191163034cd1b6e09a3bc0f1d8f7504b663c35b38cde962a142c47175dd8816e", "cfc13b304180b56844457357ff985e4bd79b80c2c4b0aa1c6d6da4228a69bd2b", "82bbaa2444776587743603bc",
			"11fc8f44e79a6c424626b2c01dd9223320f9e8e48e89affa2702dc773381be2a"},
		{strings.Repeat("\xff", 32), "", "a",
			"adf3a99fa523c7c49b7f26db3edb9a4d7ae42351d8e3ece1f6c014a7cecf9c9e", "e2aef08578f24b5fe9c577e8c8392acdc52d9d3cd696909b59493ec47a1ef8ed", "3c6b886355cab59952f23ec4",
			"b2860e8190d852b2f2176d374f5de923f02604c6c8ac73b9691769575a5895ff94"},
		{rising(32), "a", "",
			"b4103a68e6fe8c8e37c4b91bc29085238aab3bf3efb7b6f818b9354f3b3e89fe", "0924f56598ec5028142da95035c31899b1b1346c74183d63d3928b688abc4f8f", "99fc0886dcf6853d98357fcd",
			"3475d69b0b53fe680fe5cb0b9051bdbec93ce5ac1ffd2bd732be18a0f8218075"},
		{rising(32), strings.Repeat("\x00", 256), "Ladies and Gentlemen of the class of 99",
			"b4103a68e6fe8c8e37c4b91bc29085238aab3bf3efb7b6f818b9354f3b3e89fe", "0924f56598ec5028142da95035c31899b1b1346c74183d63d3928b688abc4f8f", "99fc0886dcf6853d98357fcd",
			"6cbd2c063754b0e634604506888635bcbab86bcee164947a07056f693ff26d8600b2e4e04845b8660db9d8ac02405b03c917b32ba93e50515ad1937818411774b997fea064d8c8"},
	} {
		hide, tag, nonce := keysOf(t, x.key)
		want(t, "the key that encrypts", hide, raw(t, x.hide))
		want(t, "the key that tags", tag, raw(t, x.tag))
		want(t, "the nonce", nonce, raw(t, x.nonce))
		s := raw(t, x.locked)
		want(t, "Lock", locked(t, x.key, x.head, x.text), s)
		want(t, "Open", opened(t, x.key, x.head, s), x.text)
		want(t, "Again", again(t, tag, x.head, s[:len(x.text)]), s)
	}
	sum := sha256.Sum256([]byte(locked(t, rising(32), strings.Repeat("h", maxText), strings.Repeat("t", maxText))))
	want(t, "the sum of the longest", string(sum[:]), raw(t, "529484abbfec39e9969008972d2b809a6b8345ee482d6cd4ce533108f08ec119"))
}

// P6.1
func TestKeysByLibrary(t *testing.T) {
	all := keys()
	for i := range int64(200) {
		all = append(all, some(100+i, 32))
	}
	for _, key := range all {
		hide, tag, nonce := keysOf(t, key)
		hide2, tag2, nonce2 := keysByLibrary(t, key)
		want(t, "the key that encrypts", hide, hide2)
		want(t, "the key that tags", tag, tag2)
		want(t, "the nonce", nonce, nonce2)
	}
}

// P6.1: every bit of a key is of account for all three.
func TestEveryBitOfAKeyCounts(t *testing.T) {
	key := some(11, 32)
	seen := map[string]bool{}
	for bit := range 8*len(key) + 1 {
		k := key
		if bit > 0 {
			k = turned(key, bit-1)
		}
		hide, tag, nonce := keysOf(t, k)
		seen[hide], seen[tag], seen[nonce] = true, true, true
	}
	if len(seen) != 3*(256+1) {
		t.Errorf("%d keys", len(seen))
	}
}

// P6.1: of all heads' and texts' sizes, one against another.
func TestLockByTheWords(t *testing.T) {
	for i, key := range keys() {
		for _, many := range sizes() {
			for j, size := range sizes() {
				head, text := texts(many)[(i+j)%4], texts(size)[(i+j/4)%4]
				want(t, "Lock", locked(t, key, head, text), lockedByTheWords(t, key, head, text))
			}
		}
	}
	for _, head := range texts(maxText) {
		for _, text := range texts(maxText) {
			want(t, "Lock", locked(t, some(12, 32), head, text), lockedByTheWords(t, some(12, 32), head, text))
		}
	}
}

// P6.2, P6.3: of every size that may be.
func TestOpenedAsItWas(t *testing.T) {
	key := some(13, 32)
	for many := range maxText + 1 {
		head, text := some(int64(many), maxText-many), some(int64(-many), many)
		want(t, "Open", opened(t, key, head, locked(t, key, head, text)), text)
	}
	for _, many := range sizes() {
		for _, size := range sizes() {
			for i, text := range texts(size) {
				head := texts(many)[i]
				want(t, "Open", opened(t, key, head, lockedByTheWords(t, key, head, text)), text)
			}
		}
	}
}

// P6.2: of all heads' and bytes' sizes; a key that tags is any of 32 bytes.
func TestAgainByTheWords(t *testing.T) {
	for i, tagKey := range keys() {
		for _, many := range sizes() {
			for j, size := range sizes() {
				head, bytes := texts(many)[(i+j)%4], texts(size)[(i+j/4)%4]
				want(t, "Again", again(t, tagKey, head, bytes), taggedByTheWords(tagKey, head, bytes))
			}
		}
	}
}

// P6.2: what is locked is its bytes, and behind them the tag that whoever has the key that tags makes.
func TestAgainOfTheSameBytes(t *testing.T) {
	for _, key := range keys() {
		_, tag, _ := keysOf(t, key)
		for _, many := range sizes() {
			head := some(14, maxText-many)
			s := locked(t, key, head, some(15, many))
			want(t, "Again", again(t, tag, head, s[:many]), s)
		}
	}
}

// P6.3: who knows a text and the key that tags has any other of as many bytes be opened.
func TestOtherBytesAreOpened(t *testing.T) {
	for i, key := range keys() {
		_, tag, _ := keysOf(t, key)
		for _, many := range sizes() {
			head, text := some(int64(200+i), maxText-many), some(int64(300+i), many)
			s := locked(t, key, head, text)
			for _, wanted := range append(texts(many), text) {
				bytes := xored(s[:many], xored(text, wanted))
				want(t, "other bytes", opened(t, key, head, again(t, tag, head, bytes)), wanted)
			}
		}
	}
}

// P6.3: a text differs where the bytes do, bit for bit.
func TestOtherBitsAreOpened(t *testing.T) {
	key, head, text := some(16, 32), "head", some(17, 130)
	_, tag, _ := keysOf(t, key)
	bytes := locked(t, key, head, text)[:len(text)]
	for bit := range 8 * len(bytes) {
		other := again(t, tag, head, turned(bytes, bit))
		want(t, "a bit", opened(t, key, head, other), turned(text, bit))
	}
}

// P6.3: with fewer bytes, or more, and with another head.
func TestOtherSizesAreOpened(t *testing.T) {
	key, text := some(18, 32), some(19, maxText)
	_, tag, _ := keysOf(t, key)
	bytes := locked(t, key, "head", text)[:maxText]
	for _, many := range sizes() {
		for _, head := range []string{"head", "", "another", some(20, maxText)} {
			want(t, "fewer bytes", opened(t, key, head, again(t, tag, head, bytes[:many])), text[:many])
		}
	}
}

// P6.2: one bit of the text, of the tag, of the head, or of the key.
func TestOneBitTurned(t *testing.T) {
	for _, size := range []int{0, 1, 4, 65} {
		key, head, text := some(21, 32), some(22, size), some(23, 65-size)
		s := locked(t, key, head, text)
		for bit := range 8 * len(s) {
			refused(t, "a bit of what is locked", key, head, turned(s, bit))
		}
		for bit := range 8 * len(head) {
			refused(t, "a bit of the head", key, turned(head, bit), s)
		}
		for bit := range 8 * len(key) {
			refused(t, "a bit of the key", turned(key, bit), head, s)
		}
	}
}

// P6.2: the first and the last byte of the text, the tag and the head, of the sizes that the chapter names, turned in every way.
func TestOneByteTurned(t *testing.T) {
	for _, many := range []int{1, 1023, maxText} {
		key, head, text := some(24, 32), some(25, many), some(26, many)
		s := locked(t, key, head, text)
		for bit := range 8 {
			for _, at := range []int{0, many - 1, many, many + tagSize - 1} {
				refused(t, "a byte of what is locked", key, head, turned(s, 8*at+bit))
			}
			for _, at := range []int{0, many - 1} {
				refused(t, "a byte of the head", key, turned(head, 8*at+bit), s)
			}
		}
		refused(t, "the head's bytes xor 255", key, xored(head, strings.Repeat("\xff", many)), s)
		refused(t, "two bits of the tag", key, head, turned(turned(s, 8*many), 8*many+9))
	}
}

// P6.2: what is cut, or has more bytes, or those of another one.
func TestNotAsItWasLocked(t *testing.T) {
	key, head := some(27, 32), some(28, 64)
	for _, many := range []int{1, 2, 31, 32, 33, 64, 1000, 1023} {
		text := some(int64(400+many), many)
		s := locked(t, key, head, text)
		for what, other := range map[string]string{
			"a byte less ahead":        s[1:],
			"a byte less behind":       s[:len(s)-1],
			"a byte more ahead":        "\x00" + s,
			"a byte more behind":       s + "\x00",
			"a byte more in between":   s[:many] + "\x00" + s[many:],
			"a byte less in between":   s[:many-1] + s[many:],
			"the tag alone":            s[many:],
			"the tag ahead":            s[many:] + s[:many],
			"another text's tag":       s[:many] + locked(t, key, head, turned(text, 0))[many:],
			"another head's tag":       s[:many] + locked(t, key, head[1:], text)[many:],
			"the text, as it was":      text + s[many:],
			"zeros in the tag's place": s[:many] + strings.Repeat("\x00", tagSize),
		} {
			refused(t, what, key, head, other)
		}
		for what, other := range map[string]string{"none": "", "one byte less": head[1:], "one byte more": head + "\x00", "one byte less behind": head[:63], "twice": head + head} {
			refused(t, "another head: "+what, key, other, s)
		}
	}
}

// P6.2: no byte goes from the head's end to the bytes' beginning, nor back, nor do those that tell the head's size.
func TestHeadsAndBytesAreHeldApart(t *testing.T) {
	key := some(29, 32)
	_, tag, _ := keysOf(t, key)
	all := some(30, 600)
	seen := map[string]bool{}
	for many := range len(all) + 1 {
		s := again(t, tag, all[:many], all[many:])
		seen[s[len(all)-many:]] = true
	}
	if len(seen) != len(all)+1 {
		t.Errorf("%d tags", len(seen))
	}
	for _, many := range []int{1, 2, 256, 599} {
		tagged := again(t, tag, all[:many], all[many:])
		refused(t, "a byte of the head went over", key, all[:many-1], all[many-1:many]+tagged)
		refused(t, "a byte went over to the head", key, all[:many+1], tagged[1:])
	}
}

// P6.2: bytes tagged by a key that is not the one, or otherwise than the chapter has it.
func TestOtherTags(t *testing.T) {
	key, head := some(31, 32), "head"
	hide, tag, _ := keysOf(t, key)
	bytes := hiddenByTheWords(t, key, "text")
	for what, other := range map[string]string{
		"of the text":              tagByLibrary(tag, sizeOf(head), head, "text"),
		"of the bytes alone":       tagByLibrary(tag, bytes),
		"without the size":         tagByLibrary(tag, head, bytes),
		"without the head":         tagByLibrary(tag, sizeOf(head), bytes),
		"with a size of one byte":  tagByLibrary(tag, "\x04", head, bytes),
		"with the lowest first":    tagByLibrary(tag, "\x04\x00", head, bytes),
		"with the bytes' size":     tagByLibrary(tag, sizeOf(head), head, "\x00\x04", bytes),
		"with the head behind":     tagByLibrary(tag, sizeOf(head), bytes, head),
		"by the key":               tagByLibrary(key, sizeOf(head), head, bytes),
		"by the key that encrypts": tagByLibrary(hide, sizeOf(head), head, bytes),
		"by another one":           tagByLibrary(some(32, 32), sizeOf(head), head, bytes),
	} {
		refused(t, "a tag "+what, key, head, bytes+other)
	}
	want(t, "Open", opened(t, key, head, bytes+tagByLibrary(tag, sizeOf(head), head, bytes)), "text")
	for _, other := range []string{key, hide, some(32, 32)} {
		refused(t, "tagged by another key", key, head, again(t, other, head, bytes))
	}
}

// wrongKeys are the sizes that the chapter names, and others that have 32 in their lowest bits.
func wrongKeys() []string {
	var out []string
	for _, many := range []int{0, 1, 12, 16, 24, 30, 31, 33, 34, 63, 64, 96, 256 + 32, 1<<16 + 32} {
		out = append(out, strings.Repeat("\x00", many), some(33, many))
	}
	return out
}

// wrongTexts are too long by a byte and by more, and by as much as leaves a size that may be in the lowest bits.
func wrongTexts() []string {
	var out []string
	for _, many := range []int{maxText + 1, maxText + 2, maxText + tagSize, maxText + tagSize + 1, 2048, 4096, 4097, 1<<16 - 1, 1 << 16, 1<<16 + 4, 1 << 20} {
		out = append(out, strings.Repeat("\x00", many))
	}
	return out
}

// wrongLocked are no tag, less than one, and too long.
func wrongLocked() []string {
	var out []string
	for _, many := range []int{0, 1, 2, 30, 31, maxLocked + 1, maxLocked + 2, maxLocked + tagSize, 2048, 4096 + tagSize, 1 << 16, 1<<16 + 36, 1 << 20} {
		out = append(out, strings.Repeat("\x00", many), some(34, many))
	}
	return out
}

// checkSize asks all three for ErrSize; what is locked by the key is so by its words, so that Open has nothing else against it but sizes.
func checkSize(t *testing.T, what, key, head, text string) {
	t.Helper()
	s, why := lock.Lock(key, head, text)
	wantError(t, "Lock: "+what, s, why, api.ErrSize)
	s, why = lock.Again(key, head, text)
	wantError(t, "Again: "+what, s, why, api.ErrSize)
	whole := text
	if len(text) <= 4096 {
		whole = lockedByTheWords(t, key, head, text)
	}
	s, why = lock.Open(key, head, whole)
	wantError(t, "Open: "+what, s, why, api.ErrSize)
}

// P6.1
func TestWrongKeys(t *testing.T) {
	for _, key := range wrongKeys() {
		hide, tag, nonce, why := lock.Keys(key)
		if hide+tag+nonce != "" || why != api.ErrSize {
			t.Errorf("a key of %d bytes: %x, %x, %x, error %d", len(key), hide, tag, nonce, why)
		}
		for _, many := range []int{0, 1, 32, 1023, maxText} {
			checkSize(t, "a wrong key", key, some(35, maxText-many), some(36, many))
		}
	}
}

// P6.1
func TestWrongHeadsAndTexts(t *testing.T) {
	key := some(37, 32)
	for _, wrong := range wrongTexts() {
		for _, many := range []int{0, 1, 32, 1023, maxText} {
			checkSize(t, "a wrong head", key, wrong, some(38, many))
			checkSize(t, "a wrong text", key, some(39, many), wrong)
		}
		checkSize(t, "a wrong head and text", key, wrong, wrong)
		checkSize(t, "all wrong", key[1:], wrong, wrong)
	}
}

// P6.1: ahead of the tag, which is none of theirs.
func TestWrongLocked(t *testing.T) {
	key := some(40, 32)
	for _, wrong := range wrongLocked() {
		for _, many := range []int{0, 1, 32, 1023, maxText} {
			s, why := lock.Open(key, some(41, many), wrong)
			wantError(t, "Open", s, why, api.ErrSize)
		}
	}
	for _, many := range []int{0, 1, 4, 1023, maxText} {
		wrong := turned(locked(t, key, "head", some(42, many)), 0)
		for _, k := range wrongKeys() {
			s, why := lock.Open(k, "head", wrong)
			wantError(t, "a wrong key and tag", s, why, api.ErrSize)
		}
		for _, head := range wrongTexts() {
			s, why := lock.Open(key, head, wrong)
			wantError(t, "a wrong head and tag", s, why, api.ErrSize)
		}
	}
}

// P6.1, P6.2: the least and the most that may be opened, but for the tag.
func TestEdgesOfLocked(t *testing.T) {
	key, head := some(43, 32), some(44, maxText)
	for _, many := range []int{tagSize, tagSize + 1, maxLocked - 1, maxLocked} {
		refused(t, "no tag", key, head, some(45, many))
		refused(t, "no tag", key, "", strings.Repeat("\x00", many))
		s := lockedByTheWords(t, key, head, some(46, many-tagSize))
		want(t, "Open", opened(t, key, head, s), some(46, many-tagSize))
	}
}

// R1: no answer hangs on a call ahead of it.
func TestNothingIsKept(t *testing.T) {
	key := some(47, 32)
	hide, tag, nonce := keysOf(t, key)
	s, other := locked(t, key, "head", "text"), again(t, tag, "head", "next")
	keysOf(t, some(48, 32))
	locked(t, some(48, 32), some(49, maxText), some(50, maxText))
	again(t, some(48, 32), some(49, maxText), some(50, maxText))
	refused(t, "by another key", some(48, 32), "head", s)
	hide2, tag2, nonce2 := keysOf(t, key)
	want(t, "Keys again", hide2+tag2+nonce2, hide+tag+nonce)
	want(t, "Lock again", locked(t, key, "head", "text"), s)
	want(t, "Again once more", again(t, tag, "head", "next"), other)
	want(t, "Open", opened(t, key, "head", s), "text")
}

func FuzzAll(f *testing.F) {
	f.Add(rising(32), "head", "text")
	f.Add(some(51, 32), "", "")
	f.Add(some(52, 32), some(53, maxText), some(54, maxText))
	f.Add(some(55, 32), some(56, maxText+1), some(57, maxText+1))
	f.Add("short", "head", "text")
	f.Fuzz(func(t *testing.T, key, head, text string) {
		s, why := lock.Lock(key, head, text)
		other, why2 := lock.Again(key, head, text)
		loose, why3 := lock.Open(key, head, text)
		if len(key) != 32 || len(head) > maxText || len(text) < tagSize || len(text) > maxLocked {
			wantError(t, "Open", loose, why3, api.ErrSize)
		} else {
			wantError(t, "Open", loose, why3, api.ErrAuth)
		}
		if len(key) != 32 || len(head) > maxText || len(text) > maxText {
			wantError(t, "Lock", s, why, api.ErrSize)
			wantError(t, "Again", other, why2, api.ErrSize)
			return
		}
		want(t, "Lock", s, lockedByTheWords(t, key, head, text))
		want(t, "Again", other, taggedByTheWords(key, head, text))
		want(t, "Open", opened(t, key, head, s), text)
	})
}

func BenchmarkLock(b *testing.B) {
	key, head, text := some(58, 32), some(59, 100), some(60, maxText)
	b.SetBytes(maxText)
	for range b.N {
		lock.Lock(key, head, text)
	}
}

func BenchmarkOpen(b *testing.B) {
	key, head := some(61, 32), some(62, 100)
	s, _ := lock.Lock(key, head, some(63, maxText))
	b.SetBytes(maxText)
	for range b.N {
		lock.Open(key, head, s)
	}
}

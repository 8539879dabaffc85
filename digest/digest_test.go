package digest_test

import (
	"bytes"
	"crypto/sha256"
	"encoding"
	"encoding/binary"
	"encoding/hex"
	"hash"
	"math"
	"math/big"
	"math/rand"
	"slices"
	"strings"
	"testing"

	"demurral/api"
	"demurral/digest"
)

const block = 64

// some are bytes without a rule, the same at every run.
func some(seed int64, many int) string {
	b := make([]byte, many)
	rand.New(rand.NewSource(seed)).Read(b)
	return string(b)
}

// sizes are how long texts are: the edges that the chapter names, and those next to them.
func sizes() []int {
	return []int{0, 1, 2, 7, 8, 9, 54, 55, 56, 57, 62, 63, 64, 65, 119, 120, 127, 128, 129, 191, 192, 193, 300}
}

// counts are whole blocks that came ahead of Rest: none, a few, and as many as hardly fit, so that Many, or 8 times Many, goes past 2^64.
func counts() []uint64 {
	return []uint64{0, block, 2 * block, 1<<29 - block, 1 << 29, 1<<32 - block, 1 << 32, 1<<61 - block, 1 << 61, 1 << 63,
		math.MaxUint64 - 3*block + 1, math.MaxUint64 - 2*block + 1, math.MaxUint64 - block + 1}
}

// way is a sum on its way that may be: words without a rule, and a Rest of so many bytes behind whole blocks.
func way(seed int64, whole uint64, rest int) api.Hash {
	r := rand.New(rand.NewSource(seed))
	h := api.Hash{Rest: some(seed+1, rest), Many: whole + uint64(rest)}
	for range 8 {
		h.Words = append(h.Words, r.Uint32())
	}
	return h
}

// ways are sums on their way that may be, of every Rest and every count.
func ways() []api.Hash {
	var out []api.Hash
	for rest := range block {
		for i, whole := range counts() {
			out = append(out, way(int64(100*rest+i), whole, rest))
		}
	}
	return append(out, digest.New(), way(1, 0, 0))
}

// bad are sums that may not be, by what is wrong with them.
func bad() map[string]api.Hash {
	words := func(many int) []uint32 { return make([]uint32, many) }
	return map[string]api.Hash{
		"nothing":                     {},
		"empty words":                 {Words: []uint32{}},
		"1 word":                      {Words: words(1)},
		"7 words":                     {Words: words(7)},
		"7 of 8 words":                {Words: words(8)[:7]},
		"9 words":                     {Words: words(9)},
		"16 words":                    {Words: words(16)},
		"no words, a Rest":            {Rest: "x", Many: 1},
		"7 words, a Rest":             {Words: words(7), Rest: "x", Many: 65},
		"a Rest of 64":                {Words: words(8), Rest: some(1, 64), Many: 64},
		"a Rest of 64, Many 0":        {Words: words(8), Rest: some(1, 64)},
		"a Rest of 65":                {Words: words(8), Rest: some(1, 65), Many: 65},
		"a Rest of 65, Many 1":        {Words: words(8), Rest: some(1, 65), Many: 1},
		"a Rest of 128":               {Words: words(8), Rest: some(1, 128), Many: 128},
		"a Rest of 1000":              {Words: words(8), Rest: some(1, 1000), Many: 1000},
		"a Rest of 256":               {Words: words(8), Rest: some(1, 256)},
		"a Rest of 320":               {Words: words(8), Rest: some(1, 320), Many: 320},
		"no Rest, Many 1":             {Words: words(8), Many: 1},
		"no Rest, Many 63":            {Words: words(8), Many: 63},
		"no Rest, Many 65":            {Words: words(8), Many: 65},
		"no Rest, Many 2^64 - 1":      {Words: words(8), Many: math.MaxUint64},
		"a Rest of 1, Many 0":         {Words: words(8), Rest: "x"},
		"a Rest of 1, Many 64":        {Words: words(8), Rest: "x", Many: 64},
		"a Rest of 1, Many 2":         {Words: words(8), Rest: "x", Many: 2},
		"a Rest of 33, Many 1":        {Words: words(8), Rest: some(1, 33), Many: 1},
		"a Rest of 63, Many 62":       {Words: words(8), Rest: some(1, 63), Many: 62},
		"a Rest of 63, Many 2^64 - 2": {Words: words(8), Rest: some(1, 63), Many: math.MaxUint64 - 1},
		"a Rest of 62, Many 2^64 - 1": {Words: words(8), Rest: some(1, 62), Many: math.MaxUint64},
	}
}

// library is Go's own sum, brought to the same place by the form in which it keeps one.
func library(t *testing.T, h api.Hash) hash.Hash {
	t.Helper()
	form := []byte("sha\x03")
	for _, word := range h.Words {
		form = binary.BigEndian.AppendUint32(form, word)
	}
	form = append(form, h.Rest...)
	form = append(form, make([]byte, block-len(h.Rest))...)
	form = binary.BigEndian.AppendUint64(form, h.Many)
	out := sha256.New()
	if err := out.(encoding.BinaryUnmarshaler).UnmarshalBinary(form); err != nil {
		t.Fatal(err)
	}
	return out
}

// form is the library's sum on its way as digest should have it.
func form(t *testing.T, h hash.Hash) api.Hash {
	t.Helper()
	b, err := h.(encoding.BinaryMarshaler).MarshalBinary()
	if err != nil || len(b) != 108 {
		t.Fatalf("%d bytes, %v", len(b), err)
	}
	var out api.Hash
	for i := range 8 {
		out.Words = append(out.Words, binary.BigEndian.Uint32(b[4+4*i:]))
	}
	out.Many = binary.BigEndian.Uint64(b[100:])
	out.Rest = string(b[36 : 36+out.Many%block])
	return out
}

// same is written apart from Like, which is itself under test.
func same(a, b api.Hash) bool {
	return slices.Equal(a.Words, b.Words) && a.Rest == b.Rest && a.Many == b.Many
}

func write(t *testing.T, h api.Hash, s string) api.Hash {
	t.Helper()
	out, why := digest.Write(h, s)
	if why != api.OK || !digest.Right(out) {
		t.Fatalf("%d bytes behind %v: %v, error %d", len(s), h, out, why)
	}
	return out
}

func sum(t *testing.T, h api.Hash) string {
	t.Helper()
	s, why := digest.Sum(h)
	if why != api.OK || len(s) != api.Size {
		t.Fatalf("the sum of %v: %x, error %d", h, s, why)
	}
	return s
}

func want(t *testing.T, what string, got, wanted string) {
	t.Helper()
	if got != wanted {
		t.Errorf("%s: %x; wanted %x", what, got, wanted)
	}
}

func ofLibrary(s string) string {
	b := sha256.Sum256([]byte(s))
	return string(b[:])
}

// P3.2: the chapter's example, and those of FIPS 180-4 and its sheets.
func TestExamples(t *testing.T) {
	if s := digest.Of("abc"); !strings.HasPrefix(s, "\xba\x78\x16\xbf") {
		t.Errorf("abc: %x", s)
	}
	for _, x := range []struct{ text, want string }{
		{"", "e3b0c44298fc1c149afbf4c8996fb92427ae41e4649b934ca495991b7852b855"},
		{"abc", "ba7816bf8f01cfea414140de5dae2223b00361a396177a9cb410ff61f20015ad"},
		{"abcdbcdecdefdefgefghfghighijhijkijkljklmklmnlmnomnopnopq", "248d6a61d20638b8e5c026930c3e6039a33ce45964ff2167f6ecedd419db06c1"},
		{"abcdefghbcdefghicdefghijdefghijkefghijklfghijklmghijklmnhijklmnoijklmnopjklmnopqklmnopqrlmnopqrsmnopqrstnopqrstu", "cf5b16a778af8380036ce59e7b0492370b249b11e8f07a51afac45037afee9d1"},
		{strings.Repeat("a", 1000000), "cdc76e5c9914fb9281a1c7e284d73e67f1809a48a497200e046d39ccc7112cd0"},
	} {
		b, err := hex.DecodeString(x.want)
		if err != nil {
			t.Fatal(err)
		}
		want(t, "Of", digest.Of(x.text), string(b))
	}
}

// P3.1: the first words are worked out anew, of the first primes.
func TestNew(t *testing.T) {
	h := digest.New()
	if len(h.Words) != 8 || h.Rest != "" || h.Many != 0 || !digest.Right(h) {
		t.Fatal(h)
	}
	for i, prime := range []int64{2, 3, 5, 7, 11, 13, 17, 19} {
		root := new(big.Int).Lsh(big.NewInt(prime), 64)
		if w := uint32(root.Sqrt(root).Uint64()); h.Words[i] != w {
			t.Errorf("word %d: %x; wanted %x", i, h.Words[i], w)
		}
	}
}

// P3.1
func TestRight(t *testing.T) {
	for _, h := range ways() {
		if !digest.Right(h) {
			t.Errorf("%d words, a Rest of %d, Many %d: not right", len(h.Words), len(h.Rest), h.Many)
		}
	}
	for name, h := range bad() {
		if digest.Right(h) {
			t.Errorf("%s: right", name)
		}
	}
}

// P3.1: the Many that fit a Rest are those, and no other.
func TestRightOfMany(t *testing.T) {
	for rest := range 2*block + 1 {
		for _, whole := range counts() {
			for more := range uint64(block) {
				h := api.Hash{Words: make([]uint32, 8), Rest: some(1, rest), Many: whole + more}
				if digest.Right(h) != (uint64(rest) == more) {
					t.Fatalf("a Rest of %d, Many %d: right %v", rest, h.Many, digest.Right(h))
				}
			}
		}
	}
}

// P3.1: sums that may not be are refused, whatever comes behind them, and nothing is answered beside the error.
func TestRefused(t *testing.T) {
	for name, h := range bad() {
		for _, many := range sizes() {
			out, why := digest.Write(h, some(2, many))
			if why != api.ErrArg || len(out.Words) != 0 || out.Rest != "" || out.Many != 0 {
				t.Errorf("%s: %d bytes written: %v, error %d", name, many, out, why)
			}
		}
		if s, why := digest.Sum(h); why != api.ErrArg || s != "" {
			t.Errorf("%s: sum %x, error %d", name, s, why)
		}
	}
}

// P3.1: words, Rest and Many of every place, behind texts of every size.
func TestWriteAgainstTheLibrary(t *testing.T) {
	for i, h := range ways() {
		for j, many := range sizes() {
			s := some(int64(1000*i+j), many)
			l := library(t, h)
			l.Write([]byte(s))
			if out, wanted := write(t, h, s), form(t, l); !same(out, wanted) {
				t.Fatalf("%d bytes behind %v: %v; wanted %v", many, h, out, wanted)
			}
		}
	}
}

// P3.1: Many's bits are told modulo 2^64, and Rest is filled by one block or by two.
func TestSumAgainstTheLibrary(t *testing.T) {
	for _, h := range ways() {
		want(t, "Sum", sum(t, h), string(library(t, h).Sum(nil)))
		if t.Failed() {
			t.Fatalf("a Rest of %d, Many %d", len(h.Rest), h.Many)
		}
	}
}

// P3.1: bytes that come at 2^64 are counted from 0 on.
func TestManyGoesRound(t *testing.T) {
	h := way(1, math.MaxUint64-block+1, 63)
	if h.Many != math.MaxUint64 {
		t.Fatal(h.Many)
	}
	for many, wanted := range []uint64{math.MaxUint64, 0, 1, 2} {
		if out := write(t, h, some(2, many)); out.Many != wanted || len(out.Rest) != int(wanted%block) {
			t.Errorf("%d bytes behind 2^64 - 1: Many %d, a Rest of %d", many, out.Many, len(out.Rest))
		}
	}
	if out := write(t, h, some(2, 1000)); out.Many != 999 || len(out.Rest) != 999%block {
		t.Errorf("1000 bytes: Many %d, a Rest of %d", out.Many, len(out.Rest))
	}
}

// P3.1: 8 times Many goes round at 2^61, where Many does not.
func TestSumOfManyGoesRound(t *testing.T) {
	for _, rest := range []int{0, 1, 55, 56, 63} {
		low := way(3, 0, rest)
		high := low
		for _, times := range []uint64{1, 2, 7} {
			high.Many = low.Many + times<<61
			want(t, "Sum of 2^61 more", sum(t, high), sum(t, low))
		}
		high.Many = low.Many + 1<<60
		if sum(t, high) == sum(t, low) {
			t.Errorf("2^60 more, a Rest of %d: the same sum", rest)
		}
	}
}

// P3.2: texts of all sizes to five blocks, and long ones.
func TestOfAgainstTheLibrary(t *testing.T) {
	for many := range 5*block + 1 {
		for _, s := range []string{some(int64(many), many), strings.Repeat("\x00", many), strings.Repeat("\x80", many), strings.Repeat("\xff", many)} {
			want(t, "Of", digest.Of(s), ofLibrary(s))
		}
	}
	for _, many := range []int{1000, 8191, 8192, 65535, 65536, 1 << 20, 1<<22 + 17} {
		s := some(int64(many), many)
		want(t, "Of", digest.Of(s), ofLibrary(s))
	}
}

// P3.2: Of is what New, Write and Sum come to.
func TestOfIsSum(t *testing.T) {
	for _, many := range sizes() {
		s := some(4, many)
		want(t, "Of", digest.Of(s), sum(t, write(t, digest.New(), s)))
	}
}

// P3.2: bytes that are no rune's, and one that ends texts elsewhere, count as any other.
func TestEveryByteCounts(t *testing.T) {
	seen := map[string]int{}
	for b := range 256 {
		seen[digest.Of(string([]byte{byte(b)}))] = b
		want(t, "a byte", digest.Of(string([]byte{byte(b)})), ofLibrary(string([]byte{byte(b)})))
	}
	if len(seen) != 256 {
		t.Errorf("%d sums of 256 bytes", len(seen))
	}
	s := some(5, 130)
	was := digest.Of(s)
	for i := range 8 * len(s) {
		b := []byte(s)
		b[i/8] ^= 1 << (i % 8)
		if digest.Of(string(b)) == was {
			t.Errorf("bit %d: the same sum", i)
		}
	}
}

// P3.3: a text in two parts, cut everywhere, and byte by byte.
func TestParts(t *testing.T) {
	for i, first := range []api.Hash{digest.New(), way(6, block, 1), way(7, 1<<61-block, 55), way(8, 2*block, 56), way(9, math.MaxUint64-block+1, 63)} {
		for _, many := range sizes() {
			s := some(int64(i), many)
			whole := write(t, first, s)
			for cut := range many + 1 {
				checkParts(t, first, whole, s[:cut], s[cut:])
			}
			checkParts(t, first, whole, strings.Split(s, "")...)
			checkParts(t, first, whole, "", s, "")
		}
	}
}

// P3.3: several parts of sizes without a rule, some of them empty.
func TestManyParts(t *testing.T) {
	r := rand.New(rand.NewSource(10))
	for range 300 {
		s := some(r.Int63(), r.Intn(1000))
		var parts []string
		for rest := s; rest != ""; {
			cut := min(r.Intn(150), len(rest))
			parts, rest = append(parts, rest[:cut]), rest[cut:]
		}
		checkParts(t, digest.New(), write(t, digest.New(), s), parts...)
		want(t, "Of", digest.Of(strings.Join(parts, "")), ofLibrary(s))
	}
}

func checkParts(t *testing.T, h, whole api.Hash, parts ...string) {
	t.Helper()
	for _, part := range parts {
		h = write(t, h, part)
	}
	if !same(h, whole) || !digest.Like(h, whole) || sum(t, h) != sum(t, whole) {
		t.Fatalf("%q: %v; wanted %v", parts, h, whole)
	}
}

// P3.3: asked twice, and of one that has gone on since.
func TestSumTwice(t *testing.T) {
	for _, h := range ways() {
		first := sum(t, h)
		want(t, "Sum again", sum(t, h), first)
		more := write(t, h, "more")
		want(t, "Sum behind a Write", sum(t, h), first)
		want(t, "Sum of what was written behind a Sum", sum(t, more), sum(t, write(t, h, "more")))
	}
}

// P3.1
func TestLike(t *testing.T) {
	h := way(11, block, 20)
	again := api.Hash{Words: slices.Clone(h.Words), Rest: strings.Clone(h.Rest), Many: h.Many}
	others := []api.Hash{
		{Words: h.Words, Rest: h.Rest, Many: h.Many + block},
		{Words: h.Words, Rest: h.Rest, Many: h.Many - 1},
		{Words: h.Words, Rest: h.Rest[:19], Many: h.Many},
		{Words: h.Words, Rest: h.Rest + "\x00", Many: h.Many},
		{Words: h.Words, Rest: "", Many: h.Many},
		{Words: h.Words[:7], Rest: h.Rest, Many: h.Many},
		{Words: append(slices.Clone(h.Words), 0), Rest: h.Rest, Many: h.Many},
		{Rest: h.Rest, Many: h.Many},
		{},
		digest.New(),
	}
	for bit := range 8 * 32 {
		o := api.Hash{Words: slices.Clone(h.Words), Rest: h.Rest, Many: h.Many}
		o.Words[bit/32] ^= 1 << (bit % 32)
		others = append(others, o)
	}
	for i := range h.Rest {
		b := []byte(h.Rest)
		b[i] ^= 128
		others = append(others, api.Hash{Words: h.Words, Rest: string(b), Many: h.Many})
	}
	for bit := range 64 {
		others = append(others, api.Hash{Words: h.Words, Rest: h.Rest, Many: h.Many ^ 1<<bit})
	}
	checkLike(t, h, again, true)
	for _, o := range others {
		checkLike(t, h, o, false)
		checkLike(t, o, o, true)
	}
}

// P3.1: Like asks of sums that may not be too, and a nil list is an empty one.
func TestLikeOfBad(t *testing.T) {
	checkLike(t, api.Hash{}, api.Hash{Words: []uint32{}}, true)
	checkLike(t, api.Hash{Words: make([]uint32, 1)}, api.Hash{}, false)
	checkLike(t, api.Hash{Words: []uint32{1, 2}}, api.Hash{Words: []uint32{2, 1}}, false)
	for name, h := range bad() {
		for other, o := range bad() {
			checkLike(t, h, o, name == other || same(h, o))
		}
		checkLike(t, h, digest.New(), false)
	}
}

func checkLike(t *testing.T, a, b api.Hash, wanted bool) {
	t.Helper()
	if digest.Like(a, b) != wanted || digest.Like(b, a) != wanted {
		t.Errorf("%v and %v: like %v, the other way round %v", a, b, digest.Like(a, b), digest.Like(b, a))
	}
}

// R1 and R4: what was handed in stays, and no answer hangs on another one or on what was handed in.
func TestNothingIsShared(t *testing.T) {
	for _, many := range sizes() {
		h := way(12, block, 20)
		was := api.Hash{Words: slices.Clone(h.Words), Rest: h.Rest, Many: h.Many}
		out, again := write(t, h, some(13, many)), write(t, h, some(13, many))
		sum(t, h)
		if !same(h, was) {
			t.Fatalf("%v became %v", was, h)
		}
		clear(out.Words)
		if !same(h, was) || slices.Equal(again.Words, out.Words) {
			t.Errorf("%d bytes: words are shared", many)
		}
	}
	clear(digest.New().Words)
	if digest.New().Words[0] != 0x6a09e667 || digest.Of("") != ofLibrary("") {
		t.Error("New hands out its own words")
	}
}

// P1: words of which more than 8 lie behind are 8 words still.
func TestWordsOfAList(t *testing.T) {
	h := way(14, block, 20)
	longer := api.Hash{Words: append(slices.Clone(h.Words), 1, 2, 3)[:8], Rest: h.Rest, Many: h.Many}
	if !digest.Right(longer) || !same(write(t, longer, some(15, 100)), write(t, h, some(15, 100))) {
		t.Error(longer)
	}
	want(t, "Sum", sum(t, longer), sum(t, h))
}

func FuzzWrite(f *testing.F) {
	f.Add(make([]byte, 32), uint64(3), "abc", "def")
	f.Add(bytes.Repeat([]byte{255}, 32), uint64(math.MaxUint64), some(16, 63), some(17, 65))
	f.Add(make([]byte, 28), uint64(0), "", "")
	f.Fuzz(func(t *testing.T, words []byte, many uint64, rest, s string) {
		h := api.Hash{Rest: rest, Many: many}
		for ; len(words) >= 4; words = words[4:] {
			h.Words = append(h.Words, binary.BigEndian.Uint32(words))
		}
		out, why := digest.Write(h, s)
		if !digest.Right(h) {
			if why != api.ErrArg {
				t.Fatal(why)
			}
			return
		}
		l := library(t, h)
		l.Write([]byte(s))
		if why != api.OK || !same(out, form(t, l)) || sum(t, out) != string(l.Sum(nil)) {
			t.Fatalf("%v, error %d", out, why)
		}
	})
}

func BenchmarkOf(b *testing.B) {
	s := some(18, 1<<16)
	b.SetBytes(int64(len(s)))
	for range b.N {
		digest.Of(s)
	}
}

func BenchmarkOfShort(b *testing.B) {
	for range b.N {
		digest.Of("abc")
	}
}

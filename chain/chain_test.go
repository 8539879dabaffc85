package chain_test

import (
	"crypto/hkdf"
	"crypto/hmac"
	"crypto/sha256"
	"encoding/hex"
	"math"
	"math/rand"
	"slices"
	"strings"
	"testing"

	"demurral/api"
	"demurral/chain"
)

const mostSteps = 64

// some are bytes without a rule, the same at every run.
func some(seed int64, many int) string {
	b := make([]byte, many)
	rand.New(rand.NewSource(seed)).Read(b)
	return string(b)
}

// rising are the bytes 0, 1, 2 and so on.
func rising(many int) string {
	var b []byte
	for i := range many {
		b = append(b, byte(i))
	}
	return string(b)
}

// falling are the bytes 255, 254, 253 and so on.
func falling(many int) string {
	var b []byte
	for i := range many {
		b = append(b, byte(255-i))
	}
	return string(b)
}

// turned is the text with one bit of it turned.
func turned(s string, bit int) string {
	b := []byte(s)
	b[bit/8] ^= 1 << (bit % 8)
	return string(b)
}

func raw(t *testing.T, s string) string {
	t.Helper()
	b, err := hex.DecodeString(s)
	if err != nil || len(b) != api.Size {
		t.Fatalf("%s: %d bytes, %v", s, len(b), err)
	}
	return string(b)
}

// keys are roots, points and chains: ordinary ones, and such whose bytes are all one.
func keys() []string {
	out := []string{rising(32), falling(32)}
	for _, fill := range []string{"\x00", "\x01", "a", "b", "\x80", "\xff"} {
		out = append(out, strings.Repeat(fill, 32))
	}
	for i := range int64(8) {
		out = append(out, some(i, 32))
	}
	return out
}

// wrongKeys are of the sizes that the document does not allow: those next to 32 among them, and others that have 32 in their lowest bits.
func wrongKeys() []string {
	var out []string
	for _, many := range []int{0, 1, 2, 16, 30, 31, 33, 34, 63, 64, 65, 256 + 32, 1<<16 + 32} {
		out = append(out, strings.Repeat("\x00", many), some(100, many))
	}
	return out
}

// wrongCounts are those next to what may be, and others that have such a number in their lowest bits.
func wrongCounts() []int {
	return []int{-1, -2, -31, -32, -63, -64, -65, -256, -255, math.MinInt8, math.MinInt16, math.MinInt32, math.MinInt32 + 1, math.MinInt, math.MinInt + 1,
		65, 66, 67, 127, 128, 255, 256, 257, 320, 1 << 16, 1<<16 + 1, math.MaxInt32, 1 << 32, 1<<32 + 1, 1<<32 + 64, math.MaxInt - 1, math.MaxInt}
}

func want(t *testing.T, what, got, wanted string) {
	t.Helper()
	if got != wanted {
		t.Errorf("%s: %x; wanted %x", what, got, wanted)
	}
}

func wantAll(t *testing.T, what string, got, wanted []string) {
	t.Helper()
	if !slices.Equal(got, wanted) {
		t.Errorf("%s: %d, %x; wanted %d, %x", what, len(got), got, len(wanted), wanted)
	}
}

func wantSizeError(t *testing.T, what, first, second string, why api.Errno) {
	t.Helper()
	if first != "" || second != "" || why != api.ErrSize {
		t.Errorf("%s: %x, %x, error %d; wanted error %d", what, first, second, why, api.ErrSize)
	}
}

func rootOf(t *testing.T, root, shared string) (next, begun string) {
	t.Helper()
	next, begun, why := chain.Root(root, shared)
	if why != api.OK || len(next) != 32 || len(begun) != 32 {
		t.Fatalf("root %x, point %x: %x, %x, error %d", root, shared, next, begun, why)
	}
	return next, begun
}

func stepOf(t *testing.T, c string) (next, key string) {
	t.Helper()
	next, key, why := chain.Step(c)
	if why != api.OK || len(next) != 32 || len(key) != 32 {
		t.Fatalf("chain %x: %x, %x, error %d", c, next, key, why)
	}
	return next, key
}

func run(t *testing.T, c string, many int) (string, []string) {
	t.Helper()
	last, keys, why := chain.Run(c, many)
	if why != api.OK || len(last) != 32 || len(keys) != many {
		t.Fatalf("chain %x, %d steps: %x, %d keys, error %d", c, many, last, len(keys), why)
	}
	return last, keys
}

// splitByLibrary, and what follows it up to runByTheWords, is the chapter's words, with the library's HKDF.
func splitByLibrary(t *testing.T, secret, word string) (string, string) {
	t.Helper()
	b, err := hkdf.Expand(sha256.New, []byte(secret), word, 64)
	if err != nil {
		t.Fatal(err)
	}
	return string(b[:32]), string(b[32:])
}

func extractByLibrary(t *testing.T, salt, secret string) string {
	t.Helper()
	b, err := hkdf.Extract(sha256.New, []byte(secret), []byte(salt))
	if err != nil {
		t.Fatal(err)
	}
	return string(b)
}

func rootByTheWords(t *testing.T, root, shared string) (next, begun string) {
	t.Helper()
	return splitByLibrary(t, extractByLibrary(t, root, shared), "root")
}

func stepByTheWords(t *testing.T, c string) (next, key string) {
	t.Helper()
	return splitByLibrary(t, c, "step")
}

func runByTheWords(t *testing.T, c string, many int) (string, []string) {
	t.Helper()
	var out []string
	for range many {
		var key string
		c, key = stepByTheWords(t, c)
		out = append(out, key)
	}
	return c, out
}

// P10.2: the chapter's example.
func TestNoSteps(t *testing.T) {
	for _, c := range keys() {
		last, keys, why := chain.Run(c, 0)
		if last != c || len(keys) != 0 || why != api.OK {
			t.Errorf("chain %x, no steps: %x, %x, error %d", c, last, keys, why)
		}
	}
}

// P10.1: as OpenSSL and Python tell them.
func TestRootExamples(t *testing.T) {
	as, bs := strings.Repeat("a", 32), strings.Repeat("b", 32)
	none, all := strings.Repeat("\x00", 32), strings.Repeat("\xff", 32)
	for _, x := range []struct{ root, shared, next, begun string }{
		{as, bs, "a94e5e3ae2bdd11fbddc9a32bcaff021bfce8a015d959a5bc34e753eea230f82", "a0806e976804358cefa59a2141ee22428875762aafbf845b2490910317cf77e1"},
		{bs, as, "7a8cddd078b1fbbeb3f84a2723e2da580e213e47ecb481be1e3b6d78e221afd3", "78c89f762b6363f78c34fa4ee5a59469a7bbd6b0679377fe59913d8a9c9b5044"},
		{none, none, "0b6260b5dd4329067518458959de931fa3c9236eca68b9731c471499fe3468a2", "85ef960de4a481013ff893fa35a0f73ca057614abd362a318c2f7d8c6350bf1a"},
		{all, all, "18f0f328fe47437331935ddba5cf9c46386ae8f0e0148601b98168a385f18a1d", "f630517734a984efe47a04c243a20c890997ec952bdc531c53f5768f695cdb0c"},
		{none, all, "73573a3dc1d45846d31a05195b4e67c55bd470bd99f88a82d769367e3f05a514", "3d04ded39e786ccbeaa9de0ca20aa33d1b8172cbef77dba1c6e3db95fa7d73f7"},
		{all, none, "dfb985fc78a51063fbbda45a5ec8733ad85b353459d92f04243a298273946eb2", "52e734aa081ddc498ea3fe69380c18b6f93539efcd900012d5350421a889b79d"},
		{rising(32), falling(32), "b49b5e8bb1babd634f60b1dc304a0b009e0a0fffea6d0747438fe5f48f4cef95", "f07757021d40ca5dcb8fa9ac99080d1b3166299bdbbef851d951f88ce9e08e0c"},
	} {
		next, begun := rootOf(t, x.root, x.shared)
		want(t, "the next root", next, raw(t, x.next))
		want(t, "the chain", begun, raw(t, x.begun))
	}
}

// P10.1, P10.2: as OpenSSL and Python tell them: the first step, and the chain behind 3, 63 and 64 steps, with the last keys, and the sum of all 64.
func TestStepExamples(t *testing.T) {
	for _, x := range []struct{ chain, first, key, third, ahead, behind, ahead63, last, sum string }{
		{strings.Repeat("a", 32),
			"e2857d5ca52aa16fc829881117f80928f36b2bf6534bbbe42aec77814c4f9cbc", "1d6c874d067345649f527fe82f06baac39135dbd34f8939f535081cf26f122cd",
			"d85af076eee62f54632b6e870662e066ace331f89d6f56e1ae63bd258d61fc8f", "58c936285c9409d99a227d89fdaf0d26eeca067dba26445b3185a1021120fa7d",
			"f234d1b58b8ccc7b1873f679a5352711d813cce0b55a125ba30c1774ee802185", "f930e124bacefa13123720a667a0978c782d5755397d0fe89e2203f91d88b479",
			"f2cf5122541f8944ef75b24ca93c2e429e876f7afcb5a39e76db088e12edb4b8", "b544d34fbe0b52c802556b985c04d97040270e02736f2b451bc242049365bc5e"},
		{strings.Repeat("\x00", 32),
			"db120339d3d4dbb800060ed286c3a985ed2a9746129a15db28f037bcdec51517", "683bf6dc966d31ca6ffa797b147467f49ba6e8ccd4704f004032774e3656cd1c",
			"7480c4722312f5a42c134c07856f8fef738ec17fbcc78d22b940ad8e9908a4f9", "7605fb9ce1023acfd8dbacc9ecc741d7e8afc46550a41e7a6693ace3bf37acf5",
			"f77f70150220c2b4b49e0d11c6e95a9119f4ccf6cedd4354bcd5ff7aace15b45", "211532792082f6c4bf900b51691baa4f3000a045d1dfae8e2ffab139364b818b",
			"82fa9d514bd0787ba378e257d7d3b9330cb9284ff766c23e24e0a16787b09a45", "90af82549cebabbe528bdcf8f7e9ead9dc7893899b88723c03cdfaf7d652e43e"},
		{strings.Repeat("\xff", 32),
			"7871511e7abccc8462e1857ea2d812b446449027dfe4022ea0b6317da53b8969", "bc60cae879c41d0b8ae725c1ab05f4eab0667a40f4ce891d2af9acb9245736b3",
			"83d020f227947be50a4fde655b0e4722bd6b4b43d91a743eba6bb6ce80c5330a", "00479bc7fc5a5a2a6bbe18e171618d50ce285ce06cfc3602008897d8eae012b6",
			"746c8aa61f329f6540b9e3b6119ebd62e7c8e1c713fd7b372b5097ec61ce13a4", "6ea06dea3fb7663d4cf6c8ff17de127035f1920b8bc7ad08e98bea6ce08d401f",
			"8e6b8407135001a641cfc576a2323912144b59b36b6322f4f0be366b2477573a", "05db5d2d68618210a6418c1c546870c7b21f91c14083e5ea31be5f239acdadd6"},
		{rising(32),
			"86982ce67432dfcbb34fdf67f883050cfb9029089a875073bdd949493f8922c0", "1d6632353ffb3e5f2bd504a5d708e5f654a50965707d05cfe88d9ec4be9fa1ad",
			"a45e7cb7db9dd744142439afb4548d708f21ddcd289c9701a2877e299ea79f94", "32183686158ca780797bdfda9d4b830504fe6dcb5c660779b845a8d8fe175f6d",
			"dddb1cbd7c543913e5afb5820c5c5160f9cc89e39d1bfffc9c16c922940aaca1", "a92dd81061b20f7be9e003e5738d331cf7fbbe98a0b931953caeb8d81582547d",
			"0bbf1d8039b60b4bd23b7474079202e6186f3ea375c79beeb950072eaf3f9e4a", "6e2c80edc271695f61ec53997f8914e6b5821542d02539d9b2d4387a9e4f339c"},
	} {
		next, key := stepOf(t, x.chain)
		want(t, "the next chain", next, raw(t, x.first))
		want(t, "the message's key", key, raw(t, x.key))
		third, _ := run(t, x.chain, 3)
		want(t, "the chain behind 3 steps", third, raw(t, x.third))
		ahead, _ := run(t, x.chain, 63)
		want(t, "the chain behind 63 steps", ahead, raw(t, x.ahead))
		behind, all := run(t, x.chain, mostSteps)
		want(t, "the chain behind 64 steps", behind, raw(t, x.behind))
		want(t, "the first key", all[0], key)
		want(t, "the 63rd key", all[62], raw(t, x.ahead63))
		want(t, "the 64th key", all[63], raw(t, x.last))
		sum := sha256.Sum256([]byte(strings.Join(all, "")))
		want(t, "the sum of all keys", string(sum[:]), raw(t, x.sum))
	}
}

// P10.1: each root with each point.
func TestRootByTheWords(t *testing.T) {
	all := keys()
	for i := range int64(16) {
		all = append(all, some(200+i, 32))
	}
	for _, root := range all {
		for _, shared := range all {
			next, begun := rootOf(t, root, shared)
			next2, begun2 := rootByTheWords(t, root, shared)
			want(t, "the next root", next, next2)
			want(t, "the chain", begun, begun2)
		}
	}
}

// P10.1: a root's step by tags alone: the point's, by the root, and not the other way round; the word is `root`, and the next root comes first.
func TestRootByTags(t *testing.T) {
	for i := range int64(50) {
		root, shared := some(300+i, 32), some(400+i, 32)
		secret := tagByLibrary(root, shared)
		first := tagByLibrary(secret, "root\x01")
		next, begun := rootOf(t, root, shared)
		want(t, "the next root", next, first)
		want(t, "the chain", begun, tagByLibrary(secret, first+"root\x02"))
		next2, begun2 := rootOf(t, shared, root)
		if seen := distinct(next, begun, next2, begun2, root, shared, secret); seen != 7 {
			t.Errorf("%d of 7", seen)
		}
	}
}

// P10.1: a chain's step by tags alone; the word is `step`, and the next chain comes first.
func TestStepByTags(t *testing.T) {
	for i := range int64(100) {
		c := some(500+i, 32)
		first := tagByLibrary(c, "step\x01")
		next, key := stepOf(t, c)
		want(t, "the next chain", next, first)
		want(t, "the message's key", key, tagByLibrary(c, first+"step\x02"))
	}
}

func tagByLibrary(key, s string) string {
	m := hmac.New(sha256.New, []byte(key))
	m.Write([]byte(s))
	return string(m.Sum(nil))
}

func distinct(l ...string) int {
	slices.Sort(l)
	return len(slices.Compact(l))
}

// P10.1: every bit of a root, of a point and of a chain is of account for both that are told, the bits that a key of chapter 2 leaves out among them.
func TestEveryBitCounts(t *testing.T) {
	root, shared := some(600, 32), some(601, 32)
	next, begun := rootOf(t, root, shared)
	last, key := stepOf(t, root)
	seen := []string{next, begun, last, key}
	for bit := range 8 * 32 {
		next, begun = rootOf(t, turned(root, bit), shared)
		seen = append(seen, next, begun)
		next, begun = rootOf(t, root, turned(shared, bit))
		seen = append(seen, next, begun)
		last, key = stepOf(t, turned(root, bit))
		seen = append(seen, last, key)
	}
	if many := distinct(seen...); many != 4+6*256 {
		t.Errorf("%d of %d", many, 4+6*256)
	}
}

// P10.1
func TestStepByTheWords(t *testing.T) {
	all := keys()
	for i := range int64(300) {
		all = append(all, some(700+i, 32))
	}
	for _, c := range all {
		next, key := stepOf(t, c)
		next2, key2 := stepByTheWords(t, c)
		want(t, "the next chain", next, next2)
		want(t, "the message's key", key, key2)
	}
}

// P10.2: of every number that may be.
func TestRunByTheWords(t *testing.T) {
	for _, c := range keys() {
		for many := range mostSteps + 1 {
			last, keys := run(t, c, many)
			last2, keys2 := runByTheWords(t, c, many)
			want(t, "the chain", last, last2)
			wantAll(t, "the keys", keys, keys2)
		}
	}
}

// P10.2: one step is Step, and so many are as many times Step.
func TestRunIsSteps(t *testing.T) {
	for _, start := range keys() {
		next, key := stepOf(t, start)
		last, one := run(t, start, 1)
		want(t, "the chain behind one step", last, next)
		wantAll(t, "its key", one, []string{key})
		c := start
		var stepped []string
		for many := range mostSteps + 1 {
			last, keys := run(t, start, many)
			want(t, "the chain", last, c)
			wantAll(t, "the keys", keys, stepped)
			c, key = stepOf(t, c)
			stepped = append(stepped, key)
		}
	}
}

// P10.3: of all two numbers that are 64 together at most.
func TestSomeAndThenOthers(t *testing.T) {
	for _, c := range []string{rising(32), strings.Repeat("\x00", 32), strings.Repeat("\xff", 32), some(800, 32)} {
		chains, all := []string{}, []string{}
		for many := range mostSteps + 1 {
			var last string
			last, all = run(t, c, many)
			chains = append(chains, last)
		}
		for first := range mostSteps + 1 {
			for others := range mostSteps + 1 - first {
				last, keys := run(t, chains[first], others)
				want(t, "the chain", last, chains[first+others])
				wantAll(t, "the keys", keys, all[first:first+others])
			}
		}
	}
}

// P10.3: more than may be at once, in pieces of any size.
func TestManySteps(t *testing.T) {
	start := some(801, 32)
	wanted, all := runByTheWords(t, start, 3*mostSteps+5)
	for size := 1; size <= mostSteps; size++ {
		c, keys := start, []string{}
		for len(keys) < len(all) {
			last, more := run(t, c, min(size, len(all)-len(keys)))
			c, keys = last, append(keys, more...)
		}
		want(t, "the chain", c, wanted)
		wantAll(t, "the keys", keys, all)
	}
}

// P10.3: a chain alone tells what comes: of whatever it came, from another one or from a root, it goes on as its words have it.
func TestAChainAloneTellsWhatComes(t *testing.T) {
	root, c := some(802, 32), some(803, 32)
	for range 20 {
		root, c = rootOf(t, root, c)
		wanted, keys := runByTheWords(t, strings.Clone(c), 5)
		last, got := run(t, c, 5)
		want(t, "the chain", last, wanted)
		wantAll(t, "the keys", got, keys)
		c = last
	}
}

// P10.3: no two of the chains and keys that come of a root are the same.
func TestNoneComesTwice(t *testing.T) {
	root, shared := some(804, 32), some(805, 32)
	seen := []string{root, shared}
	for range 10 {
		next, c := rootOf(t, root, shared)
		seen = append(seen, next, c)
		for range mostSteps {
			var key string
			c, key = stepOf(t, c)
			seen = append(seen, c, key)
		}
		root = next
	}
	if many := distinct(seen...); many != 2+10*(2+2*mostSteps) {
		t.Errorf("%d of %d", many, 2+10*(2+2*mostSteps))
	}
}

// P10.1: each alone, and together.
func TestWrongRoots(t *testing.T) {
	for _, wrong := range wrongKeys() {
		for _, key := range keys() {
			next, begun, why := chain.Root(wrong, key)
			wantSizeError(t, "a wrong root", next, begun, why)
			next, begun, why = chain.Root(key, wrong)
			wantSizeError(t, "a wrong point", next, begun, why)
		}
		for _, other := range wrongKeys() {
			next, begun, why := chain.Root(wrong, other)
			wantSizeError(t, "both wrong", next, begun, why)
		}
	}
}

// P10.1
func TestWrongChains(t *testing.T) {
	for _, wrong := range wrongKeys() {
		next, key, why := chain.Step(wrong)
		wantSizeError(t, "a wrong chain", next, key, why)
	}
}

func wantNoRun(t *testing.T, c string, many int) {
	t.Helper()
	last, keys, why := chain.Run(c, many)
	if last != "" || len(keys) != 0 || why != api.ErrSize {
		t.Errorf("a chain of %d bytes, %d steps: %x, %d keys, error %d; wanted error %d", len(c), many, last, len(keys), why, api.ErrSize)
	}
}

// P10.1, P10.2: also of a chain that may not be, of which there are no steps either.
func TestWrongRuns(t *testing.T) {
	for _, many := range wrongCounts() {
		for _, c := range append(keys(), wrongKeys()...) {
			wantNoRun(t, c, many)
		}
	}
	for _, wrong := range wrongKeys() {
		for many := range mostSteps + 1 {
			wantNoRun(t, wrong, many)
		}
	}
}

// R1: no answer hangs on a call ahead of it, nor on what is done with a list that was answered.
func TestNothingIsKept(t *testing.T) {
	c := some(806, 32)
	last, keys := run(t, c, 10)
	wanted := slices.Clone(keys)
	next, begun := rootOf(t, c, last)
	for many := range mostSteps + 1 {
		run(t, some(807, 32), many)
	}
	rootOf(t, some(807, 32), some(808, 32))
	wantNoRun(t, c, 65)
	wantAll(t, "the keys, later", keys, wanted)
	keys[0] = "changed"
	_ = append(keys, "one more")
	last2, keys2 := run(t, c, 10)
	want(t, "the chain again", last2, last)
	wantAll(t, "the keys again", keys2, wanted)
	next2, begun2 := rootOf(t, c, last)
	want(t, "the next root again", next2, next)
	want(t, "the chain of it again", begun2, begun)
}

func FuzzAll(f *testing.F) {
	f.Add(rising(32), falling(32), 3)
	f.Add(some(809, 32), some(810, 32), 64)
	f.Add(some(811, 32), some(812, 31), 65)
	f.Add(some(813, 33), some(814, 32), 0)
	f.Add("", "", -1)
	f.Fuzz(func(t *testing.T, a, b string, many int) {
		next, begun, why := chain.Root(a, b)
		if len(a) == 32 && len(b) == 32 {
			next2, begun2 := rootByTheWords(t, a, b)
			want(t, "the next root", next, next2)
			want(t, "the chain", begun, begun2)
		} else {
			wantSizeError(t, "Root", next, begun, why)
		}
		if len(a) != 32 {
			next, key, why := chain.Step(a)
			wantSizeError(t, "Step", next, key, why)
		}
		if len(a) != 32 || many < 0 || many > mostSteps {
			wantNoRun(t, a, many)
			return
		}
		last, keys := run(t, a, many)
		last2, keys2 := runByTheWords(t, a, many)
		want(t, "the chain", last, last2)
		wantAll(t, "the keys", keys, keys2)
	})
}

func BenchmarkRun(b *testing.B) {
	c := some(815, 32)
	for range b.N {
		chain.Run(c, mostSteps)
	}
}

package wire_test

import (
	"cmp"
	"fmt"
	"math/big"
	"math/rand"
	"slices"
	"strings"
	"testing"

	"demurral/api"
	"demurral/wire"
)

const (
	maxText  = 1024
	maxTexts = 32
	top      = 1<<64 - 1
)

// some are bytes without a rule, the same at every run.
func some(seed int64, many int) string {
	b := make([]byte, many)
	rand.New(rand.NewSource(seed)).Read(b)
	return string(b)
}

func number(n uint64) api.Part { return api.Part{N: n} }

func text(s string) api.Part { return api.Part{Text: true, S: s} }

// edges are the numbers that the chapter names, and all by which a number comes to a bit or a byte more.
func edges() []uint64 {
	out := []uint64{0, 255, 256, 258, 1023, 1024, 1025, top - 1, top}
	for bit := range 64 {
		n := uint64(1) << bit
		out = append(out, n-1, n, n+1)
	}
	slices.Sort(out)
	return slices.Compact(out)
}

// numbers are the edges, and ones without a rule of each size.
func numbers() []uint64 {
	out := edges()
	r := rand.New(rand.NewSource(1))
	for bits := range 64 {
		for range 20 {
			out = append(out, r.Uint64()>>bits)
		}
	}
	return out
}

// texts are of a size: without a rule, and of bytes that are all one, of which some look as a number's.
func texts(many int) []string {
	out := []string{some(int64(1000+many), many)}
	for _, fill := range []string{"\x00", "\x01", "\x08", "\x09", "\xff", "n"} {
		out = append(out, strings.Repeat(fill, many))
	}
	return append(out, strings.Repeat("é", many)[:many])
}

// numberByTheWords, and what follows it up to unpackedByTheWords, is the chapter's words, with the library's big numbers.
func numberByTheWords(n uint64) string {
	b := new(big.Int).SetUint64(n).Bytes()
	return string([]byte{byte(len(b))}) + string(b)
}

func partByTheWords(p api.Part) string {
	if p.Text {
		return numberByTheWords(uint64(len(p.S))) + p.S
	}
	return numberByTheWords(p.N)
}

func partsByTheWords(l []api.Part) string {
	out := ""
	for _, p := range l {
		out += partByTheWords(p)
	}
	return out
}

// standing is the number with whose bytes the text begins, and what is behind them.
func standing(s string) (uint64, string, bool) {
	for many := range min(9, len(s)) {
		n := new(big.Int).SetBytes([]byte(s[1 : 1+many])).Uint64()
		if behind, ok := strings.CutPrefix(s, numberByTheWords(n)); ok {
			return n, behind, true
		}
	}
	return 0, "", false
}

func unpackedByTheWords(s, kinds string) ([]api.Part, int, api.Errno) {
	if strings.Trim(kinds, "nt*") != "" {
		return nil, 0, api.ErrArg
	}
	var out []api.Part
	rest := s
	for kinds != "" {
		kind := kinds[0]
		kinds = kinds[1:]
		n, behind, ok := standing(rest)
		p := number(n)
		switch {
		case kind == 't' && (n > maxText || n > uint64(len(behind))), kind == '*' && n > maxTexts:
			ok = false
		case kind == 't':
			p, behind = text(behind[:n]), behind[n:]
		case kind == '*':
			kinds = strings.Repeat("t", int(n)) + kinds
		}
		if !ok {
			return nil, len(s) - len(rest), api.ErrSyntax
		}
		out, rest = append(out, p), behind
	}
	if rest != "" {
		return nil, len(s) - len(rest), api.ErrSyntax
	}
	return out, 0, api.OK
}

func packed(t *testing.T, l []api.Part) string {
	t.Helper()
	s, why := wire.Pack(l)
	if why != api.OK {
		t.Fatalf("%d parts packed: error %d", len(l), why)
	}
	return s
}

func wantBytes(t *testing.T, what, got, wanted string) {
	t.Helper()
	if got != wanted {
		t.Errorf("%s: %x; wanted %x", what, got, wanted)
	}
}

func wantSizeError(t *testing.T, what, s string, why api.Errno) {
	t.Helper()
	if s != "" || why != api.ErrSize {
		t.Errorf("%s: %d bytes, error %d; wanted error %d", what, len(s), why, api.ErrSize)
	}
}

// told are parts as far as a line holds them.
func told(l []api.Part) string {
	s := fmt.Sprintf("%#v", l)
	return s[:min(len(s), 400)]
}

// wantParts asks for all of each part: what a part of another kind has is empty.
func wantParts(t *testing.T, s, kinds string, wanted []api.Part) {
	t.Helper()
	l, place, why := wire.Unpack(s, kinds)
	if !slices.Equal(l, wanted) || place != 0 || why != api.OK {
		t.Errorf("%.80q of kinds %.80q: %s, place %d, error %d; wanted %s", s, kinds, told(l), place, why, told(wanted))
	}
}

func wantFault(t *testing.T, s, kinds string, place int, wanted api.Errno) {
	t.Helper()
	l, at, why := wire.Unpack(s, kinds)
	if len(l) != 0 || at != place || why != wanted {
		t.Errorf("%.80q of kinds %.80q: %d parts, place %d, error %d; wanted place %d, error %d", s, kinds, len(l), at, why, place, wanted)
	}
}

func wantAsByTheWords(t *testing.T, s, kinds string) {
	t.Helper()
	wanted, place, why := unpackedByTheWords(s, kinds)
	if why != api.OK {
		wantFault(t, s, kinds, place, why)
		return
	}
	wantParts(t, s, kinds, wanted)
	wantBytes(t, "what is unpacked, packed", packed(t, wanted), s)
}

// record is a row of parts, by kinds.
type record struct {
	kinds string
	parts []api.Part
}

func (r record) with(kinds string, parts ...api.Part) record {
	return record{r.kinds + kinds, append(slices.Clone(r.parts), parts...)}
}

// list is a part for how many texts there are, and each of them.
func list(texts ...string) []api.Part {
	out := []api.Part{number(uint64(len(texts)))}
	for _, s := range texts {
		out = append(out, text(s))
	}
	return out
}

// randomRecord has so many kinds, of numbers and texts of all sizes, with short ones more often.
func randomRecord(r *rand.Rand, many int) record {
	word := func() string { return some(r.Int63(), r.Intn(maxText+1)>>r.Intn(11)) }
	var out record
	for range many {
		switch r.Intn(3) {
		case 0:
			out = out.with("n", number(r.Uint64()>>r.Intn(64)))
		case 1:
			out = out.with("t", text(word()))
		default:
			var l []string
			for range r.Intn(maxTexts+1) >> r.Intn(6) {
				l = append(l, word())
			}
			out = out.with("*", list(l...)...)
		}
	}
	return out
}

// records are ordinary ones, and such with the edges that the chapter names.
func records() []record {
	var none record
	out := []record{none}
	for _, n := range edges() {
		out = append(out, none.with("n", number(n)))
	}
	for _, many := range []int{0, 1, 2, 127, 128, 255, 256, 257, 1023, maxText} {
		for _, s := range texts(many) {
			out = append(out, none.with("t", text(s)))
		}
	}
	for _, many := range []int{0, 1, 2, 31, maxTexts} {
		for _, s := range []string{"", "a", "\x00", some(2, 255), some(3, maxText)} {
			l := list(slices.Repeat([]string{s}, many)...)
			out = append(out, none.with("*", l...), none.with("n", number(7)).with("*", l...).with("t", text(s)), none.with("*", l...).with("*", l...))
		}
	}
	r := rand.New(rand.NewSource(4))
	for i := range 400 {
		out = append(out, randomRecord(r, 1+i%8))
	}
	return out
}

// P7.1: the chapter's, and others by hand.
func TestNumberExamples(t *testing.T) {
	for _, x := range []struct {
		n      uint64
		wanted string
	}{
		{0, "\x00"}, {1, "\x01\x01"}, {127, "\x01\x7f"}, {128, "\x01\x80"}, {255, "\x01\xff"},
		{256, "\x02\x01\x00"}, {258, "\x02\x01\x02"}, {65535, "\x02\xff\xff"}, {65536, "\x03\x01\x00\x00"},
		{1 << 32, "\x05\x01\x00\x00\x00\x00"}, {1<<56 - 1, "\x07\xff\xff\xff\xff\xff\xff\xff"},
		{0x0123456789abcdef, "\x08\x01\x23\x45\x67\x89\xab\xcd\xef"}, {1 << 63, "\x08\x80\x00\x00\x00\x00\x00\x00\x00"},
		{18446744073709551615, "\x08\xff\xff\xff\xff\xff\xff\xff\xff"},
	} {
		wantBytes(t, "Number", wire.Number(x.n), x.wanted)
		wantParts(t, x.wanted, "n", []api.Part{number(x.n)})
	}
}

// P7.1, P7.2
func TestNumbers(t *testing.T) {
	for _, n := range numbers() {
		s := wire.Number(n)
		wantBytes(t, "Number", s, numberByTheWords(n))
		wantBytes(t, "Pack", packed(t, []api.Part{number(n)}), s)
		wantParts(t, s, "n", []api.Part{number(n)})
	}
}

// P7.3: numbers' bytes are in order as the numbers are.
func TestNumbersInOrder(t *testing.T) {
	all := numbers()
	for _, a := range all {
		for _, b := range all {
			if cmp.Compare(wire.Number(a), wire.Number(b)) != cmp.Compare(a, b) {
				t.Fatalf("%d and %d: %x and %x", a, b, wire.Number(a), wire.Number(b))
			}
		}
	}
	for n := range uint64(1<<17 + 1) {
		if wire.Number(n) >= wire.Number(n+1) {
			t.Fatalf("%d: %x and %x", n, wire.Number(n), wire.Number(n+1))
		}
	}
}

// P7.1, P7.2: of every size that may be.
func TestTexts(t *testing.T) {
	for many := range maxText + 1 {
		for _, word := range texts(many) {
			s, why := wire.Text(word)
			if why != api.OK {
				t.Fatalf("a text of %d bytes: error %d", many, why)
			}
			wantBytes(t, "Text", s, numberByTheWords(uint64(many))+word)
			wantBytes(t, "Pack", packed(t, []api.Part{text(word)}), s)
			wantParts(t, s, "t", []api.Part{text(word)})
		}
	}
}

// P7.1: too long by a byte and by more, and by as much as leaves a size that may be in the lowest bits.
func TestTextsTooLong(t *testing.T) {
	for _, many := range []int{maxText + 1, maxText + 2, 2047, 2048, 1<<16 - 1, 1 << 16, 1<<16 + 1, 1 << 20} {
		long := text(strings.Repeat("\x00", many))
		s, why := wire.Text(long.S)
		wantSizeError(t, "Text", s, why)
		for _, l := range [][]api.Part{{long}, {long, long}, {text("a"), number(1), long}, {long, number(1), text("a")}, {text("a"), long, text("b")}, list("a", long.S)} {
			s, why = wire.Pack(l)
			wantSizeError(t, "Pack", s, why)
		}
	}
}

// P7.1
func TestPackExamples(t *testing.T) {
	for _, x := range []struct {
		record
		wanted string
	}{
		{record{}, ""},
		{record{"nntt", []api.Part{number(5), number(2), text("a"), text("")}}, "\x01\x05\x01\x02\x01\x01a\x00"},
		{record{"*", list()}, "\x00"},
		{record{"*", list("")}, "\x01\x01\x00"},
		{record{"*n", append(list("ab", ""), number(256))}, "\x01\x02\x01\x02ab\x00\x02\x01\x00"},
		{record{"t", []api.Part{text(strings.Repeat("x", maxText))}}, "\x02\x04\x00" + strings.Repeat("x", maxText)},
	} {
		wantBytes(t, "Pack", packed(t, x.parts), x.wanted)
		wantParts(t, x.wanted, x.kinds, x.parts)
	}
	wantBytes(t, "an empty row", packed(t, []api.Part{}), "")
}

// P7.1: what a part of another kind has is not packed, and too long a text of it is no error.
func TestPackLeavesOtherKinds(t *testing.T) {
	long := strings.Repeat("x", maxText+1)
	l := []api.Part{{N: 5, S: "five"}, {Text: true, N: top, S: "a"}, {S: long}, {Text: true, N: 1025}}
	s := packed(t, l)
	wantBytes(t, "Pack", s, "\x01\x05\x01\x01a\x00\x00")
	wantParts(t, s, "ntnt", []api.Part{number(5), text("a"), number(0), text("")})
}

// P7.1, P7.2, P7.3
func TestRecords(t *testing.T) {
	for _, r := range records() {
		s := packed(t, r.parts)
		wantBytes(t, "Pack", s, partsByTheWords(r.parts))
		wantParts(t, s, r.kinds, r.parts)
		if l, _, _ := wire.Unpack(s, r.kinds); !wire.Like(l, r.parts) {
			t.Errorf("what is packed is not unpacked as it was: kinds %q", r.kinds)
		}
	}
}

// P7.3: rows of the same kinds that are not alike have other bytes.
func TestRecordsHeldApart(t *testing.T) {
	seen := map[string][]api.Part{}
	for _, r := range records() {
		name := r.kinds + " " + packed(t, r.parts)
		if other, ok := seen[name]; ok && !wire.Like(other, r.parts) {
			t.Errorf("two rows of kinds %q have the same bytes", r.kinds)
		}
		seen[name] = r.parts
	}
}

// P7.2: more parts than a frame has, and than fit a byte.
func TestManyParts(t *testing.T) {
	for _, x := range []record{
		{"n", []api.Part{number(258)}},
		{"t", []api.Part{text("")}},
		{"*", list("", "ab")},
	} {
		for _, many := range []int{255, 256, 1 << 16} {
			wantParts(t, strings.Repeat(partsByTheWords(x.parts), many), strings.Repeat(x.kinds, many), slices.Repeat(x.parts, many))
		}
	}
}

// P7.2: of a `*` the number, and each text, is a part.
func TestListsOfTexts(t *testing.T) {
	for many := range maxTexts + 1 {
		for _, s := range []string{"", "a", some(5, 300), strings.Repeat("x", maxText)} {
			l := list(slices.Repeat([]string{s}, many)...)
			bytes := partsByTheWords(l)
			wantParts(t, bytes, "*", l)
			wantParts(t, bytes, "n"+strings.Repeat("t", many), l)
		}
	}
}

// P7.2: every byte that is no kind, wherever it stands.
func TestWrongKinds(t *testing.T) {
	good := "\x01\x05\x01\x01a\x00"
	for b := range 256 {
		kind := string([]byte{byte(b)})
		if strings.Contains("nt*", kind) {
			continue
		}
		for _, kinds := range []string{kind, kind + "nt*", "n" + kind + "t*", "nt*" + kind, kind + kind} {
			for _, s := range []string{"", good, good + "\x00", "\x01\x05\x09", "\x09", good[:3]} {
				wantFault(t, s, kinds, 0, api.ErrArg)
			}
		}
	}
	for _, kinds := range []string{"N", "T", "nté", " ", "n t", "n,t", "ñ", "\x00", "nt\x00", strings.Repeat("n", 1000) + "x"} {
		wantFault(t, good, kinds, 0, api.ErrArg)
	}
}

// wrongNumbers stand nowhere, whatever is behind them.
func wrongNumbers() []string {
	var out []string
	for first := 9; first < 256; first++ {
		out = append(out, string([]byte{byte(first)})+strings.Repeat("\x01", 300))
	}
	for many := 1; many <= 8; many++ {
		head := string([]byte{byte(many)})
		out = append(out, head+"\x00"+strings.Repeat("\x01", 300), head+strings.Repeat("\x00", 300))
	}
	return out
}

// P7.2: the place is where the number begins, or the text that it is of, or a `*`'s number or text.
func TestWrongNumbers(t *testing.T) {
	for _, wrong := range wrongNumbers() {
		for _, kind := range []string{"n", "t", "*"} {
			wantFault(t, wrong, kind, 0, api.ErrSyntax)
			wantFault(t, "\x01\x05"+wrong, "n"+kind, 2, api.ErrSyntax)
			wantFault(t, "\x01\x02\x01\x02ab"+wrong, "nt"+kind, 6, api.ErrSyntax)
			wantFault(t, "\x01\x01\x01\x01a"+wrong, "*"+kind, 5, api.ErrSyntax)
		}
		wantFault(t, "\x01\x02"+wrong, "*", 2, api.ErrSyntax)
		wantFault(t, "\x01\x02\x01\x01a"+wrong, "*", 5, api.ErrSyntax)
	}
}

// P7.2: bytes that end too early, at each byte of each part.
func TestCutRecords(t *testing.T) {
	for _, r := range records() {
		s := packed(t, r.parts)
		if len(s) > 3000 {
			continue
		}
		place := 0
		for _, p := range r.parts {
			many := len(partByTheWords(p))
			for cut := place; cut < place+many; cut++ {
				wantFault(t, s[:cut], r.kinds, place, api.ErrSyntax)
			}
			place += many
		}
	}
}

// P7.2: numbers of each size, of which bytes are missing, one or all.
func TestCutNumbers(t *testing.T) {
	for many := 1; many <= 8; many++ {
		for there := range many {
			s := string([]byte{byte(many)}) + strings.Repeat("\x01", there)
			for _, kind := range []string{"n", "t", "*"} {
				wantFault(t, s, kind, 0, api.ErrSyntax)
				wantFault(t, "\x00"+s, "n"+kind, 1, api.ErrSyntax)
			}
		}
	}
	for _, kinds := range []string{"n", "t", "*", "nn", "t*", "*n"} {
		wantFault(t, "", kinds, 0, api.ErrSyntax)
	}
}

// P7.2: a text would have more than 1024 bytes, be they there or not; so where its size is none of a call's either.
func TestTextsTooLongUnpacked(t *testing.T) {
	for _, many := range []uint64{maxText + 1, maxText + 2, 2048, 1 << 16, 1<<16 + 1, 1<<31 - 1, 1 << 31, 1 << 32, 1<<32 + 1, 1<<63 - 1, 1 << 63, 1<<63 + 1, top - 8, top - 2, top - 1, top} {
		for _, there := range []int{0, 1, maxText, maxText + 1, 3000} {
			s := numberByTheWords(many) + strings.Repeat("x", there)
			wantFault(t, s, "t", 0, api.ErrSyntax)
			wantFault(t, "\x01\x05"+s, "nt", 2, api.ErrSyntax)
			wantFault(t, "\x01\x03\x00\x00"+s, "*", 4, api.ErrSyntax)
		}
	}
	s := numberByTheWords(maxText+1) + strings.Repeat("x", maxText+1)
	wantFault(t, s+"\x00", "tn", 0, api.ErrSyntax)
}

// P7.2: a number of texts is more than 32, be they there or not.
func TestTooManyTexts(t *testing.T) {
	for _, many := range []uint64{maxTexts + 1, 64, 255, 256, 257, 1 << 16, 1 << 32, 1<<32 + 1, 1 << 63, top} {
		for _, there := range []int{0, 1, 32, 33, 64, 1000} {
			s := numberByTheWords(many) + strings.Repeat("\x00", there)
			wantFault(t, s, "*", 0, api.ErrSyntax)
			wantFault(t, "\x01\x05"+s, "n*", 2, api.ErrSyntax)
			wantFault(t, "\x01\x01\x00"+s, "**", 3, api.ErrSyntax)
		}
	}
}

// P7.2: more bytes behind; the place is where the last part ends.
func TestMoreBytes(t *testing.T) {
	for _, r := range records() {
		s := packed(t, r.parts)
		for _, more := range []string{"\x00", "\x01\x05", "\x09", "\xff\xff", some(6, 100), s + "\x00"} {
			wantFault(t, s+more, r.kinds, len(s), api.ErrSyntax)
		}
	}
	for _, s := range []string{"\x00", "a", some(7, 5000)} {
		wantFault(t, s, "", 0, api.ErrSyntax)
	}
	wantFault(t, "\x01\x20"+strings.Repeat("\x00", 33), "*", 34, api.ErrSyntax)
}

// P7.2: of several faults the first one's place is told.
func TestFirstFault(t *testing.T) {
	wantFault(t, "\x02\x00\x05\x09", "nn", 0, api.ErrSyntax)
	wantFault(t, "\x01\x05\x09\x09", "nnn", 2, api.ErrSyntax)
	wantFault(t, "\x01\x21\x09", "*n", 0, api.ErrSyntax)
	wantFault(t, "\x01\x02\x01\x05a", "*n", 2, api.ErrSyntax)
	wantFault(t, "\x01\x01\x05", "tn", 3, api.ErrSyntax)
	wantFault(t, "\x01\x01\x05\x09\x09", "tn*", 3, api.ErrSyntax)
}

// P7.2, P7.3: all short bytes of such as mean something, of all short kinds.
func TestAllShortBytes(t *testing.T) {
	bytes := grown("\x00\x01\x02\x08\x09\x20\x21\xff", 4)
	for _, kinds := range grown("nt*", 4) {
		for _, s := range bytes {
			wantAsByTheWords(t, s, kinds)
		}
	}
	for _, kinds := range grown("nt*x", 3) {
		for _, s := range grown("\x00\x01\x02", 5) {
			wantAsByTheWords(t, s, kinds)
		}
	}
}

// grown are all rows of some bytes, of 0 up to as many as most.
func grown(of string, most int) []string {
	out := []string{""}
	last := out
	for range most {
		var next []string
		for _, s := range last {
			for i := range len(of) {
				next = append(next, s+of[i:i+1])
			}
		}
		out, last = append(out, next...), next
	}
	return out
}

// P7.2, P7.3: a byte of a record set to another one, put in, or taken out.
func TestSpoiltRecords(t *testing.T) {
	r := rand.New(rand.NewSource(8))
	for range 4000 {
		x := randomRecord(r, 1+r.Intn(5))
		s := packed(t, x.parts)
		at := r.Intn(min(len(s), 1+r.Intn(40)))
		for _, b := range []byte{0, 1, 2, 4, 8, 9, 32, 33, 255, byte(r.Intn(256))} {
			one := string([]byte{b})
			wantAsByTheWords(t, s[:at]+one+s[at+1:], x.kinds)
			wantAsByTheWords(t, s[:at]+one+s[at:], x.kinds)
		}
		wantAsByTheWords(t, s[:at]+s[at+1:], x.kinds)
		wantAsByTheWords(t, s, x.kinds[1:])
		wantAsByTheWords(t, s, x.kinds+"t")
		wantAsByTheWords(t, s, "*"+x.kinds)
	}
}

// P7.1
func TestLike(t *testing.T) {
	base := []api.Part{number(5), text("a"), number(0), text("")}
	for what, x := range map[string]struct {
		a, b []api.Part
		like bool
	}{
		"itself":                          {base, base, true},
		"a copy":                          {base, slices.Clone(base), true},
		"none and an empty one":           {nil, []api.Part{}, true},
		"none and none":                   {nil, nil, true},
		"none and one":                    {nil, []api.Part{{}}, false},
		"a part less":                     {base, base[:3], false},
		"a part less ahead":               {base, base[1:], false},
		"a part more, like the last one":  {base, append(slices.Clone(base), text("")), false},
		"other order":                     {base, []api.Part{text("a"), number(5), number(0), text("")}, false},
		"another number":                  {base, []api.Part{number(4), text("a"), number(0), text("")}, false},
		"another text":                    {base, []api.Part{number(5), text("b"), number(0), text("")}, false},
		"another number behind":           {base, []api.Part{number(5), text("a"), number(1), text("")}, false},
		"another text behind":             {base, []api.Part{number(5), text("a"), number(0), text("\x00")}, false},
		"of another kind":                 {[]api.Part{number(0)}, []api.Part{text("")}, false},
		"of another kind, with all else":  {[]api.Part{{N: 1, S: "x"}}, []api.Part{{Text: true, N: 1, S: "x"}}, false},
		"numbers, but for their texts":    {[]api.Part{{N: 1, S: "x"}}, []api.Part{{N: 1}}, true},
		"numbers, but for another text":   {[]api.Part{{N: 1, S: "x"}}, []api.Part{{N: 1, S: "y"}}, true},
		"texts, but for their numbers":    {[]api.Part{{Text: true, N: 1, S: "x"}}, []api.Part{text("x")}, true},
		"texts, but for another number":   {[]api.Part{{Text: true, N: 1, S: "x"}}, []api.Part{{Text: true, N: 2, S: "x"}}, true},
		"numbers that differ, texts like": {[]api.Part{{N: 1, S: "x"}}, []api.Part{{N: 2, S: "x"}}, false},
		"texts that differ, numbers like": {[]api.Part{{Text: true, N: 1, S: "x"}}, []api.Part{{Text: true, N: 1, S: "y"}}, false},
		"numbers 2^32 apart":              {[]api.Part{number(1)}, []api.Part{number(1<<32 + 1)}, false},
		"numbers 2^63 apart":              {[]api.Part{number(0)}, []api.Part{number(1 << 63)}, false},
		"texts that begin alike":          {[]api.Part{text("ab")}, []api.Part{text("a")}, false},
		"texts too long to be packed":     {[]api.Part{text(strings.Repeat("x", 5000))}, []api.Part{text(strings.Repeat("x", 5000))}, true},
		"too long, and another one":       {[]api.Part{text(strings.Repeat("x", 5000))}, []api.Part{text(strings.Repeat("x", 4999) + "y")}, false},
	} {
		if wire.Like(x.a, x.b) != x.like || wire.Like(x.b, x.a) != x.like {
			t.Errorf("%s: %v, %v", what, wire.Like(x.a, x.b), wire.Like(x.b, x.a))
		}
	}
}

func kindsOf(l []api.Part) string {
	out := ""
	for _, p := range l {
		if p.Text {
			out += "t"
		} else {
			out += "n"
		}
	}
	return out
}

// P7.1: a row is like another one just if both have the same kinds and bytes.
func TestLikeByBytes(t *testing.T) {
	var rows [][]api.Part
	for _, n := range []uint64{0, 1, 258} {
		for _, s := range []string{"", "a", "\x01\x02"} {
			for _, more := range []bool{false, true} {
				one := api.Part{Text: more, N: n, S: s}
				rows = append(rows, []api.Part{one}, []api.Part{one, number(1)}, []api.Part{text("a"), one})
			}
		}
	}
	for _, a := range rows {
		for _, b := range rows {
			if wire.Like(a, b) != (kindsOf(a) == kindsOf(b) && partsByTheWords(a) == partsByTheWords(b)) {
				t.Errorf("%v and %v: %v", a, b, wire.Like(a, b))
			}
		}
	}
}

// R1, R4: no answer hangs on a call ahead of it, nor on what is done to another answer, and no list that was handed in is changed.
func TestNothingIsKept(t *testing.T) {
	l := []api.Part{{N: 5, S: "x"}, {Text: true, N: 7, S: "a"}, number(1), text("b")}
	before := slices.Clone(l)
	s := packed(t, l)
	first, _, _ := wire.Unpack(s, "nt*")
	clear(first)
	_ = append(first[:0], number(9))
	wantParts(t, s, "nt*", []api.Part{number(5), text("a"), number(1), text("b")})
	wantFault(t, s, "nt*n", len(s), api.ErrSyntax)
	wantFault(t, s, "q", 0, api.ErrArg)
	wantParts(t, s, "nt*", []api.Part{number(5), text("a"), number(1), text("b")})
	wire.Like(l, first)
	if !slices.Equal(l, before) {
		t.Errorf("%v; it was %v", l, before)
	}
	wantBytes(t, "Pack again", packed(t, l), s)
}

func FuzzUnpack(f *testing.F) {
	for _, r := range records() {
		f.Add(partsByTheWords(r.parts), r.kinds)
	}
	for _, wrong := range wrongNumbers()[240:] {
		f.Add(wrong, "nt*")
	}
	f.Add("\x01\x05", "nx")
	f.Fuzz(func(t *testing.T, s, kinds string) { wantAsByTheWords(t, s, kinds) })
}

func FuzzPack(f *testing.F) {
	f.Add(uint64(258), "text", uint64(0), "")
	f.Add(uint64(top), some(9, maxText), uint64(maxText), some(10, maxText+1))
	f.Fuzz(func(t *testing.T, n uint64, a string, m uint64, b string) {
		l := []api.Part{{N: n, S: b}, {Text: true, N: m, S: a}, {N: m, S: a}, {Text: true, N: n, S: b}}
		s, why := wire.Pack(l)
		if len(a) > maxText || len(b) > maxText {
			wantSizeError(t, "Pack", s, why)
			return
		}
		wantBytes(t, "Pack", s, partsByTheWords(l))
		wantParts(t, s, "ntnt", []api.Part{number(n), text(a), number(m), text(b)})
	})
}

func BenchmarkPack(b *testing.B) {
	l := list(slices.Repeat([]string{some(11, 32)}, maxTexts)...)
	for range b.N {
		wire.Pack(l)
	}
}

func BenchmarkUnpack(b *testing.B) {
	s := partsByTheWords(list(slices.Repeat([]string{some(12, 32)}, maxTexts)...))
	for range b.N {
		wire.Unpack(s, "*")
	}
}

package log_test

import (
	"encoding/binary"
	"fmt"
	"hash/crc32"
	"math/big"
	"math/rand"
	"slices"
	"strings"
	"testing"

	"demurral/api"
	"demurral/log"
)

const (
	maxText   = 1024
	maxMarked = 1023 // of a state and a change
)

// some are bytes without a rule, the same at every run.
func some(seed int64, many int) string {
	b := make([]byte, many)
	rand.New(rand.NewSource(seed)).Read(b)
	return string(b)
}

// turned is the text with one bit of it turned.
func turned(s string, bit int) string {
	b := []byte(s)
	b[bit/8] ^= 1 << (bit % 8)
	return string(b)
}

// sizes are those that the chapter names, and those beside them.
func sizes() []int {
	return []int{0, 1, 2, 127, 128, 254, 255, 256, 257, 511, 512, 1022, 1023, maxText}
}

func sizesTooLong() []int {
	return []int{maxText + 1, maxText + 2, 2047, 2048, 1 << 16, 1<<16 + 1, 1 << 20}
}

// texts are of a size: without a rule, of bytes that are all one, and a text that looks as a state, a change or a record.
func texts(many int) []string {
	out := []string{some(int64(1000+many), many), strings.Repeat("é", many)[:many]}
	for _, fill := range []string{"\x00", "\x01", "\x02", "\x08", "\xff", "s", "c", recordByTheWords("sab")} {
		out = append(out, strings.Repeat(fill, many)[:many])
	}
	return out
}

// crcByTheWords, and what follows it up to recoveredByTheWords, is the chapter's words, without package wire.
func crcByTheWords(s string) uint32 {
	c := uint64(1<<32 - 1)
	for i := range len(s) {
		c ^= uint64(s[i])
		for range 8 {
			odd := c%2 == 1
			c /= 2
			if odd {
				c ^= 3988292384
			}
		}
	}
	return uint32((1<<32 - 1) ^ c)
}

func numberByTheWords(n int) string {
	b := big.NewInt(int64(n)).Bytes()
	return string([]byte{byte(len(b))}) + string(b)
}

// withCrc are bytes and their crc, as of a record.
func withCrc(b string) string {
	return b + string(binary.BigEndian.AppendUint32(nil, crc32.ChecksumIEEE([]byte(b))))
}

func recordByTheWords(s string) string {
	return withCrc(numberByTheWords(len(s)) + s)
}

func logByTheWords(l []string) string {
	out := ""
	for _, s := range l {
		out += recordByTheWords(s)
	}
	return out
}

// heads are the bytes with which a record of a text of that many bytes begins.
var heads = func() []string {
	var out []string
	for many := range maxText + 1 {
		out = append(out, numberByTheWords(many))
	}
	return out
}()

// standing is the text whose record the bytes begin with.
func standing(s string) (string, bool) {
	for many, head := range heads {
		if strings.HasPrefix(s, head) && len(head)+many <= len(s) {
			text := s[len(head) : len(head)+many]
			return text, strings.HasPrefix(s, recordByTheWords(text))
		}
	}
	return "", false
}

func scannedByTheWords(s string) ([]string, int) {
	var out []string
	end := 0
	for {
		text, ok := standing(s[end:])
		if !ok {
			return out, end
		}
		out = append(out, text)
		end += len(recordByTheWords(text))
	}
}

func recoveredByTheWords(s string) (string, []string) {
	state, later := "", []string{}
	l, _ := scannedByTheWords(s)
	for _, text := range l {
		if rest, ok := strings.CutPrefix(text, "s"); ok {
			state, later = rest, []string{}
		}
		if rest, ok := strings.CutPrefix(text, "c"); ok {
			later = append(later, rest)
		}
	}
	return state, later
}

// marked are a state and changes as texts of a log.
func marked(state string, later []string) []string {
	out := []string{"s" + state}
	for _, change := range later {
		out = append(out, "c"+change)
	}
	return out
}

// told are texts as far as a line holds them.
func told(l []string) string {
	s := fmt.Sprintf("%d texts: %q", len(l), l)
	return s[:min(len(s), 300)]
}

func wantBytes(t *testing.T, what, got, wanted string) {
	t.Helper()
	if got != wanted {
		t.Errorf("%s: %d bytes, %.200x; wanted %d bytes, %.200x", what, len(got), got, len(wanted), wanted)
	}
}

func wantSizeError(t *testing.T, what, s string, why api.Errno) {
	t.Helper()
	if s != "" || why != api.ErrSize {
		t.Errorf("%s: %d bytes, error %d; wanted error %d", what, len(s), why, api.ErrSize)
	}
}

func record(t *testing.T, s string) string {
	t.Helper()
	r, why := log.Record(s)
	if why != api.OK {
		t.Fatalf("a record of %d bytes: error %d", len(s), why)
	}
	return r
}

func write(t *testing.T, l []string) string {
	t.Helper()
	s, why := log.Write(l)
	if why != api.OK {
		t.Fatalf("a log of %s: error %d", told(l), why)
	}
	return s
}

func pack(t *testing.T, state string, later []string) string {
	t.Helper()
	s, why := log.Pack(state, later)
	if why != api.OK {
		t.Fatalf("a state of %d bytes, and %s: error %d", len(state), told(later), why)
	}
	return s
}

func wantScanned(t *testing.T, what, s string, wanted []string, end int) {
	t.Helper()
	l, at := log.Scan(s)
	if !slices.Equal(l, wanted) || at != end {
		t.Errorf("%s: %.100x: %s, till %d; wanted %s, till %d", what, s, told(l), at, told(wanted), end)
	}
}

func wantRecovered(t *testing.T, what, s, wanted string, wantedLater []string) {
	t.Helper()
	state, later := log.Recover(s)
	if state != wanted || !slices.Equal(later, wantedLater) {
		t.Errorf("%s: %.100x: %.100q, %s; wanted %.100q, %s", what, s, state, told(later), wanted, told(wantedLater))
	}
}

// wantAsByTheWords asks for all that is promised of any bytes.
func wantAsByTheWords(t *testing.T, what, s string) {
	t.Helper()
	l, end := scannedByTheWords(s)
	wantScanned(t, what, s, l, end)
	wantBytes(t, what+": what is scanned, written", write(t, l), s[:end])
	state, later := recoveredByTheWords(s)
	wantRecovered(t, what, s, state, later)
}

// wantCut asks that bytes are scanned, and recovered, just as far as these texts' log, which they begin with.
func wantCut(t *testing.T, what, s string, whole []string) {
	t.Helper()
	ahead := logByTheWords(whole)
	if !strings.HasPrefix(s, ahead) {
		t.Fatalf("%s: %.100x does not begin with %.100x", what, s, ahead)
	}
	wantScanned(t, what, s, whole, len(ahead))
	state, later := recoveredByTheWords(ahead)
	wantRecovered(t, what, s, state, later)
}

// wantLog asks for all that is promised of texts.
func wantLog(t *testing.T, l []string) {
	t.Helper()
	s := write(t, l)
	wantBytes(t, "Write", s, logByTheWords(l))
	wantCut(t, "as it was written", s, l)
}

// random is a row of so many texts of all sizes, with short ones more often; most are states and changes.
func random(r *rand.Rand, many int) []string {
	var out []string
	for range many {
		word := some(r.Int63(), r.Intn(maxMarked+1)>>r.Intn(11))
		out = append(out, []string{"s", "c", "c", "c", "", "x", "\x00"}[r.Intn(7)]+word)
	}
	return out
}

// rows are texts of ordinary logs, and of such with the edges that the chapter names.
func rows() [][]string {
	out := [][]string{nil, {}, {""}, {"", ""}, {"s"}, {"c"}, {"one", "", "three"}, {"sone", "ca", "", "xy", "cb"}}
	for _, many := range sizes() {
		for _, s := range texts(many) {
			out = append(out, []string{s}, []string{s, s}, []string{"sa", s, "cb"}, []string{"", s, ""})
		}
	}
	r := rand.New(rand.NewSource(1))
	for i := range 300 {
		out = append(out, random(r, 1+i%9))
	}
	return append(out, random(r, 1000))
}

// P9.1: the chapter's, and others that Python's zlib told.
func TestCrcExamples(t *testing.T) {
	for _, x := range []struct {
		s      string
		wanted uint32
	}{
		{"123456789", 3421780262},
		{"", 0},
		{"a", 3904355907}, {"s", 453955339}, {"c", 112844655}, {"ab", 2659403885}, {"abc", 891568578},
		{"message digest", 538287487},
		{"The quick brown fox jumps over the lazy dog", 1095738169},
		{"\x00", 3523407757}, {"\xff", 4278190080},
		{"\x00\x00\x00\x00", 558161692}, {"\xff\xff\xff\xff", 4294967295},
		{strings.Repeat("\x00", 32), 420107693}, {strings.Repeat("\xff", 32), 4285311755},
		{strings.Repeat("x", 1024), 1222111331}, {strings.Repeat("\x00", 1024), 4021661486},
	} {
		if c := log.Crc(x.s); c != x.wanted {
			t.Errorf("%.40q: %d; wanted %d", x.s, c, x.wanted)
		}
	}
}

func wantCrc(t *testing.T, s string) {
	t.Helper()
	wanted := crc32.ChecksumIEEE([]byte(s))
	if byWords := crcByTheWords(s); byWords != wanted {
		t.Fatalf("%d bytes, %.40x: by the words %d, by the library %d", len(s), s, byWords, wanted)
	}
	if c := log.Crc(s); c != wanted {
		t.Errorf("%d bytes, %.40x: %d; wanted %d", len(s), s, c, wanted)
	}
}

// P9.1: of every byte and two, of every size up to more than a record has, and of long texts, since Crc has no limit.
func TestCrc(t *testing.T) {
	for a := range 256 {
		wantCrc(t, string([]byte{byte(a)}))
		for b := range 256 {
			wantCrc(t, string([]byte{byte(a), byte(b)}))
		}
	}
	for many := range maxText + 100 {
		wantCrc(t, some(int64(many), many))
	}
	for _, many := range append(sizes(), sizesTooLong()...) {
		for _, s := range texts(many) {
			wantCrc(t, s)
		}
	}
}

// P9.1: by hand, with crcs that Python's zlib told.
func TestRecordExamples(t *testing.T) {
	for _, x := range []struct{ s, wanted string }{
		{"", "\x00\xd2\x02\xef\x8d"},
		{"a", "\x01\x01a\xdd\x2d\xd3\xaa"},
		{"ab", "\x01\x02ab\x45\x26\x36\x85"},
		{"ca", "\x01\x02ca\xee\x19\x05\xbd"},
		{"s\x1cB", "\x01\x03s\x1cB\xc1\xe5\xda\xab"},
		{"\x00", "\x01\x01\x00\xe7\x98\x82\x64"},
		{"\xff", "\x01\x01\xff\xca\x9a\x6d\xe9"},
		{"123456789", "\x01\x09123456789\x7b\xe1\x68\x6e"},
		{strings.Repeat("x", maxText), "\x02\x04\x00" + strings.Repeat("x", maxText) + "\x12\x21\xc6\x64"},
	} {
		wantBytes(t, "Record", record(t, x.s), x.wanted)
		wantBytes(t, "Write", write(t, []string{x.s}), x.wanted)
		wantBytes(t, "Write of two", write(t, []string{x.s, x.s}), x.wanted+x.wanted)
		wantScanned(t, "Scan", x.wanted, []string{x.s}, len(x.wanted))
	}
	wantBytes(t, "no texts", write(t, nil), "")
	wantBytes(t, "no texts", write(t, []string{}), "")
}

// P9.1, P9.2: of every size that may be.
func TestRecords(t *testing.T) {
	for many := range maxText + 1 {
		for _, s := range texts(many) {
			r := record(t, s)
			wantBytes(t, "Record", r, recordByTheWords(s))
			wantCut(t, "a record", r, []string{s})
		}
	}
}

// P9.1, P9.2: the crc is that of the text's bytes, how many it has ahead of it with them; with that of the text alone it is no record.
func TestCrcIsOfTheTextsBytes(t *testing.T) {
	for many := range maxText + 1 {
		for _, s := range texts(many) {
			b := numberByTheWords(many) + s
			r := record(t, s)
			wantBytes(t, "Record", r, b+string(binary.BigEndian.AppendUint32(nil, log.Crc(b))))
			wantCut(t, "the crc of the text alone", numberByTheWords(many)+withCrc(s)+r, nil)
		}
	}
}

// P9.1: too long by a byte and by more, in every place.
func TestTextsTooLong(t *testing.T) {
	for _, many := range sizesTooLong() {
		for _, long := range []string{strings.Repeat("\x00", many), strings.Repeat("s", many)} {
			r, why := log.Record(long)
			wantSizeError(t, "Record", r, why)
			for _, l := range [][]string{{long}, {long, long}, {long, "a"}, {"a", long}, {"", long, ""}, {"sa", "cb", long, "cd"}} {
				s, why := log.Write(l)
				wantSizeError(t, "Write", s, why)
			}
		}
	}
}

// P9.1, P9.2, P9.4
func TestLogs(t *testing.T) {
	for _, l := range rows() {
		wantLog(t, l)
		wantAsByTheWords(t, "a log", logByTheWords(l))
	}
}

// P9.4: no byte of what was written is scanned as something else, wherever it ends.
func TestCutLogs(t *testing.T) {
	for i, l := range rows() {
		if len(l) > 9 || i%3 != 0 {
			continue
		}
		s := write(t, l)
		end, whole := 0, 0
		for cut := range len(s) + 1 {
			if whole < len(l) && cut == end+len(recordByTheWords(l[whole])) {
				end, whole = cut, whole+1
			}
			wantScanned(t, fmt.Sprint("cut at ", cut), s[:cut], l[:whole], end)
		}
		if whole != len(l) {
			t.Errorf("%d of %d texts", whole, len(l))
		}
	}
}

// P9.4: what is recovered of a log that is cut hangs on the records that are whole.
func TestRecoverCutLogs(t *testing.T) {
	far := some(1, 255)
	s := pack(t, "state", []string{"", "a", far}) + pack(t, "", []string{"b"})
	steps := []struct {
		many  int
		state string
		later []string
	}{
		{12, "state", nil}, {7, "state", []string{""}}, {8, "state", []string{"", "a"}}, {263, "state", []string{"", "a", far}},
		{7, "", nil}, {8, "", []string{"b"}},
	}
	state, later, cut := "", []string(nil), 0
	for _, step := range steps {
		for range step.many {
			wantRecovered(t, fmt.Sprint("cut at ", cut), s[:cut], state, later)
			cut++
		}
		state, later = step.state, step.later
	}
	wantRecovered(t, "all of it", s, state, later)
	if cut != len(s) {
		t.Errorf("%d bytes; wanted %d", len(s), cut)
	}
}

// P9.2
func TestRecoverExamples(t *testing.T) {
	for _, x := range []struct {
		l     []string
		state string
		later []string
	}{
		{nil, "", nil},
		{[]string{""}, "", nil},
		{[]string{"x"}, "", nil},
		{[]string{"s"}, "", nil},
		{[]string{"c"}, "", []string{""}},
		{[]string{"sone"}, "one", nil},
		{[]string{"ca"}, "", []string{"a"}},
		{[]string{"ca", "", "cb"}, "", []string{"a", "b"}},
		{[]string{"sone", "ca", "", "xy", "cb"}, "one", []string{"a", "b"}},
		{[]string{"ca", "sone", "cb"}, "one", []string{"b"}},
		{[]string{"ca", "cb", "sone"}, "one", nil},
		{[]string{"sone", "ca", "stwo", "cb", "cc"}, "two", []string{"b", "c"}},
		{[]string{"sone", "stwo", "sthree"}, "three", nil},
		{[]string{"sone", "ca", "s"}, "", nil},
		{[]string{"sone", "ca", "s", "cb"}, "", []string{"b"}},
		{[]string{"sone", "ca", "ca", "cb", "ca"}, "one", []string{"a", "a", "b", "a"}},
		{[]string{"ss", "cc"}, "s", []string{"c"}},
		{[]string{"scone", "cs"}, "cone", []string{"s"}},
		{[]string{"sone", "Stwo", "Ca", "rb", "tb", "bb", "db", "\x00s", " c", "xs"}, "one", nil},
		{[]string{"s\x00", "c\xff", "c"}, "\x00", []string{"\xff", ""}},
	} {
		wantRecovered(t, told(x.l), logByTheWords(x.l), x.state, x.later)
		wantLog(t, x.l)
	}
}

// P9.2: texts that begin with every byte, of which two count.
func TestRecoverByEveryByte(t *testing.T) {
	for b := range 256 {
		text := string([]byte{byte(b)})
		state, later := "one", []string{"a", "d"}
		switch text {
		case "s":
			state, later = "b", []string{"d"}
		case "c":
			later = []string{"a", "b", "d"}
		}
		wantRecovered(t, "first byte "+text, logByTheWords([]string{"sone", "ca", text + "b", "cd"}), state, later)
	}
}

// P9.1, P9.2, P9.4: all rows of up to five of such texts as mean something.
func TestAllShortLogs(t *testing.T) {
	last := [][]string{nil}
	for range 5 {
		var next [][]string
		for _, l := range last {
			for _, text := range []string{"", "s", "c", "sa", "cb", "x"} {
				next = append(next, append(slices.Clone(l), text))
			}
		}
		for _, l := range next {
			wantLog(t, l)
		}
		last = next
	}
}

// P9.3: by hand, with crcs that Python's zlib told.
func TestPackExamples(t *testing.T) {
	for _, x := range []struct {
		state  string
		later  []string
		wanted string
	}{
		{"", nil, "\x01\x01s\x2e\x94\xa2\xe2"},
		{"", []string{}, "\x01\x01s\x2e\x94\xa2\xe2"},
		{"one", nil, "\x01\x04sone\x73\xb9\x84\x57"},
		{"one", []string{"a"}, "\x01\x04sone\x73\xb9\x84\x57\x01\x02ca\xee\x19\x05\xbd"},
		{"one", []string{"", "a"}, "\x01\x04sone\x73\xb9\x84\x57\x01\x01c\x33\x23\xb2\x86\x01\x02ca\xee\x19\x05\xbd"},
	} {
		wantBytes(t, "Pack", pack(t, x.state, x.later), x.wanted)
		wantRecovered(t, "Pack", x.wanted, x.state, x.later)
	}
}

// packed is a state, and changes.
type packed struct {
	state string
	later []string
}

// packs are ordinary ones, and such with the edges that the chapter names.
func packs() []packed {
	out := []packed{{}, {"one", nil}, {"", []string{"a"}}, {"one", []string{"a", "", "b"}}, {"s", []string{"c", "s"}}, {"c", []string{"sc"}}}
	for _, many := range sizes()[:len(sizes())-1] {
		for _, s := range texts(many) {
			out = append(out, packed{s, nil}, packed{s, []string{s}}, packed{"", []string{s, "", s}}, packed{"one", []string{"a", s}})
		}
	}
	r := rand.New(rand.NewSource(2))
	word := func() string { return some(r.Int63(), r.Intn(maxMarked+1)>>r.Intn(11)) }
	for i := range 300 {
		p := packed{state: word()}
		for range i % 7 {
			p.later = append(p.later, word())
		}
		out = append(out, p)
	}
	return append(out, packed{"one", slices.Repeat([]string{"again"}, 1000)})
}

// P9.3, P9.4
func TestPacks(t *testing.T) {
	for _, p := range packs() {
		s := pack(t, p.state, p.later)
		l := marked(p.state, p.later)
		wantBytes(t, "Pack", s, logByTheWords(l))
		wantBytes(t, "Pack and Write", s, write(t, l))
		wantCut(t, "Pack", s, l)
		wantRecovered(t, "Pack", s, p.state, p.later)
	}
}

// P9.4: records behind what is packed.
func TestPackedAndMore(t *testing.T) {
	for _, p := range packs() {
		s := pack(t, p.state, p.later)
		for _, more := range [][]string{{"c"}, {"cd"}, {"", "cd", "x", "ce"}, {"c" + some(3, maxMarked)}, {"x"}, {"", ""}} {
			later := slices.Clone(p.later)
			for _, text := range more {
				if rest, ok := strings.CutPrefix(text, "c"); ok {
					later = append(later, rest)
				}
			}
			wantRecovered(t, told(more)+" behind", s+write(t, more), p.state, later)
		}
		wantRecovered(t, "a state behind", s+write(t, []string{"stwo"}), "two", nil)
		wantRecovered(t, "an empty state behind", s+write(t, []string{"s"}), "", nil)
		wantRecovered(t, "a state and changes behind", s+write(t, []string{"cd", "stwo", "ce", "", "cf"}), "two", []string{"e", "f"})
		wantRecovered(t, "itself behind", s+s, p.state, p.later)
		wantRecovered(t, "a pack behind", s+pack(t, "two", []string{"d"}), "two", []string{"d"})
		wantRecovered(t, "other bytes behind", s+"\x01", p.state, p.later)
	}
}

// P9.3: too long by a byte and by more, in every place.
func TestPacksTooLong(t *testing.T) {
	for _, many := range append([]int{maxMarked + 1}, sizesTooLong()...) {
		long := strings.Repeat("x", many)
		for _, p := range []packed{
			{long, nil}, {long, []string{"a"}}, {long, []string{long}},
			{"", []string{long}}, {"one", []string{long, "a"}}, {"one", []string{"a", long, "b"}}, {"one", []string{"a", "b", long}},
			{strings.Repeat("x", maxMarked), []string{strings.Repeat("x", maxMarked), long}},
		} {
			s, why := log.Pack(p.state, p.later)
			wantSizeError(t, fmt.Sprint("Pack, ", many, " bytes"), s, why)
		}
	}
}

// places are rows of which a record is spoilt, and which one: the first, a middle and the last.
func places() []struct {
	l  []string
	at int
} {
	long := some(5, maxText)
	var out []struct {
		l  []string
		at int
	}
	for _, l := range [][]string{{"sone"}, {"sone", "ca", "cb"}, {"", "sone", "", "ca", ""}, {"ca", "stwo", "cb"}, {long, long, long}, {"c" + some(6, 254), "c" + some(7, 255), "s" + some(8, 255)}} {
		for _, at := range []int{0, len(l) / 2, len(l) - 1} {
			out = append(out, struct {
				l  []string
				at int
			}{l, at})
		}
	}
	return out
}

// P9.2: one bit of a record turned: of its size, its text or its crc. What is whole behind it is not scanned.
func TestTurnedBits(t *testing.T) {
	for _, x := range places() {
		ahead, behind := logByTheWords(x.l[:x.at]), logByTheWords(x.l[x.at+1:])
		r := recordByTheWords(x.l[x.at])
		for bit := range 8 * len(r) {
			wantCut(t, fmt.Sprint("record ", x.at, ", bit ", bit), ahead+turned(r, bit)+behind, x.l[:x.at])
		}
	}
}

// P9.2: a record with a byte set to another one, put in, or taken out.
func TestSpoiltBytes(t *testing.T) {
	for _, x := range places() {
		ahead, behind := logByTheWords(x.l[:x.at]), logByTheWords(x.l[x.at+1:])
		r := recordByTheWords(x.l[x.at])
		for at := range r {
			if at > 20 && at < len(r)-20 {
				continue
			}
			for _, b := range []byte{0, 1, 2, 3, 4, 7, 8, 9, 'c', 's', 128, 255, r[at] - 1, r[at] + 1} {
				one := string([]byte{b})
				wantAsByTheWords(t, "a byte set", ahead+r[:at]+one+r[at+1:]+behind)
				wantAsByTheWords(t, "a byte more", ahead+r[:at]+one+r[at:]+behind)
			}
			wantAsByTheWords(t, "a byte less", ahead+r[:at]+r[at+1:]+behind)
		}
	}
}

// P9.2: what looks as a record, but is none. What spoils it is under the crc, where it is not the crc itself.
func TestOtherRecords(t *testing.T) {
	for _, x := range places() {
		ahead, behind := logByTheWords(x.l[:x.at]), logByTheWords(x.l[x.at+1:])
		text := x.l[x.at]
		size := numberByTheWords(len(text))
		bare := size + text
		r, crc := withCrc(bare), crc32.ChecksumIEEE([]byte(bare))
		for what, s := range map[string]string{
			"a byte 0 ahead of the size":    withCrc(string([]byte{size[0] + 1}) + "\x00" + bare[1:]),
			"two bytes 0 ahead of the size": withCrc(string([]byte{size[0] + 2}) + "\x00\x00" + bare[1:]),
			"a size of 8 bytes":             withCrc("\x08" + strings.Repeat("\x00", 8-int(size[0])) + bare[1:]),
			"a size of 9 bytes":             withCrc("\x09" + strings.Repeat("\x00", 9-int(size[0])) + bare[1:]),
			"a size that is too small":      numberByTheWords(len(text)/2) + text[:len(text)/2] + r[len(bare):],
			"no size":                       withCrc(text),
			"the crc of the text alone":     size + withCrc(text),
			"the lowest byte first":         bare + string(binary.LittleEndian.AppendUint32(nil, crc)),
			"the crc of the size":           bare + withCrc(size)[len(size):],
			"a crc that is not turned":      bare + string(binary.BigEndian.AppendUint32(nil, ^crc)),
			"a crc by another number":       bare + string(binary.BigEndian.AppendUint32(nil, crc32.Checksum([]byte(bare), crc32.MakeTable(crc32.Castagnoli)))),
			"a text alone":                  bare,
			"a crc ahead":                   r[len(bare):] + bare,
		} {
			wantAsByTheWords(t, what, ahead+s+behind)
			if s != r { // of an empty text some are the same
				wantCut(t, what, ahead+s, x.l[:x.at])
			}
		}
	}
}

// P9.2: sizes with bytes 0 ahead, whose text, and crc of all of it, are right.
func TestSizesWithZeros(t *testing.T) {
	for _, ahead := range [][]string{nil, {"sone"}, {"sone", "ca"}} {
		for _, many := range sizes() {
			text := strings.Repeat("c", many)
			size := numberByTheWords(many)
			for zeros := 1; zeros <= 9; zeros++ {
				wide := withCrc(string([]byte{size[0] + byte(zeros)}) + strings.Repeat("\x00", zeros) + size[1:] + text)
				wantCut(t, fmt.Sprint(zeros, " bytes 0 ahead"), logByTheWords(ahead)+wide+recordByTheWords("cb"), ahead)
			}
		}
	}
}

// P9.2: a record of too long a text, with its right crc: no text comes of it, and none of what is behind it.
func TestRecordsTooLong(t *testing.T) {
	for _, many := range sizesTooLong() {
		for _, fill := range []string{"\x00", "s", "c"} {
			r := recordByTheWords(strings.Repeat(fill, many))
			for _, ahead := range [][]string{nil, {""}, {"sone"}, {"sone", "ca"}} {
				for _, behind := range [][]string{nil, {"stwo"}, {"cb", "cd"}} {
					wantCut(t, fmt.Sprint("a record of ", many, " bytes"), logByTheWords(ahead)+r+logByTheWords(behind), ahead)
				}
			}
		}
	}
}

// P9.2: sizes that no bytes have, such too by which a place would wrap round.
func TestSizesTooFar(t *testing.T) {
	for _, size := range []string{
		"\x01\xff", "\x02\x04\x00", "\x02\x04\x01", "\x02\xff\xff", "\x04\x7f\xff\xff\xff", "\x04\x80\x00\x00\x00", "\x04\xff\xff\xff\xff", "\x05\x01\x00\x00\x00\x01",
		"\x08\x7f\xff\xff\xff\xff\xff\xff\xff", "\x08\x80\x00\x00\x00\x00\x00\x00\x00", "\x08\xff\xff\xff\xff\xff\xff\xff\xff", "\x08\xff\xff\xff\xff\xff\xff\xff\xfc", "\xff",
	} {
		for _, ahead := range [][]string{nil, {"sone", "ca"}} {
			wantCut(t, "too far", logByTheWords(ahead)+size, ahead)
			wantCut(t, "too far", logByTheWords(ahead)+size+"a"+recordByTheWords("a"), ahead)
		}
	}
}

// P9.2: bytes that are no record's from the first one on.
func TestNoRecords(t *testing.T) {
	whole := logByTheWords([]string{"sone", "ca"})
	for _, s := range []string{"", "s", "c", "\x01", "\x00", "\x00\x00\x00\x00", "\x00\x00\x00\x00\x00", "\x01\x01s\x1b\x0e\xcf\x0b", "\xff", "one", "\x01\x01s", "\x00" + whole, "\x01" + whole, "\x09" + whole, "s" + whole, "\xff" + whole, whole[1:], whole[5:9], some(9, 2000)} {
		wantCut(t, "no records", s, nil)
	}
	for a := range 256 {
		for b := range 256 {
			wantCut(t, "two bytes", string([]byte{byte(a), byte(b)}), nil)
			wantAsByTheWords(t, "two bytes ahead", string([]byte{byte(a), byte(b)})+whole)
		}
	}
}

// P9.2: bytes behind the last whole record, that none of them is of.
func TestMoreBytes(t *testing.T) {
	for _, l := range [][]string{{""}, {"s"}, {"sone", "ca"}, {"ca", "sone", "", "cb"}, {some(1, maxText)}} {
		s := logByTheWords(l)
		for b := range 256 {
			wantCut(t, "a byte behind", s+string([]byte{byte(b)}), l)
		}
		r := recordByTheWords("stwo")
		for _, more := range []string{"\x00\x00", "\x00\x00\x00\x00", r[:1], r[:5], r[:len(r)-1], r[1:], "\xff" + r, "\x00" + r, "\n", some(2, 3000), r[:len(r)-1] + r, "\x00\x00\x00\x00\x00", "\x00\xd2\x02\xef", "\x00\xd2\x02\xef\x8c"} {
			wantCut(t, "bytes behind", s+more, l)
		}
	}
}

// P9.2: bytes 0 are no record, however many there are: an empty text's one byte 0 has another crc.
func TestZeros(t *testing.T) {
	for many := 1; many < 1000; many++ {
		s := strings.Repeat("\x00", many)
		wantCut(t, "bytes 0", s, nil)
		wantCut(t, "bytes 0 behind", recordByTheWords("sone")+s, []string{"sone"})
		wantCut(t, "bytes 0 between", recordByTheWords("sone")+s+recordByTheWords("ca"), []string{"sone"})
	}
}

// P9.2: an empty text's record is one as others are.
func TestEmptyTexts(t *testing.T) {
	for many := range 1000 {
		s := strings.Repeat("\x00\xd2\x02\xef\x8d", many)
		empty := make([]string, many)
		wantCut(t, "empty texts", s, empty)
		wantScanned(t, "empty texts behind", recordByTheWords("sone")+s, append([]string{"sone"}, empty...), 10+5*many)
		wantRecovered(t, "empty texts between", recordByTheWords("sone")+s+recordByTheWords("ca"), "one", []string{"a"})
	}
}

// P9.2: a text that is a log is scanned as a text.
func TestLogsInLogs(t *testing.T) {
	inner := logByTheWords([]string{"sinner", "cx"})
	for _, l := range [][]string{{inner}, {"s" + inner, "c" + inner}, {"sone", inner, "ca"}, {recordByTheWords(inner)}, {"", inner}} {
		wantLog(t, l)
		for cut := 1; cut < len(recordByTheWords(l[len(l)-1])); cut++ {
			s := logByTheWords(l)
			wantCut(t, "cut", s[:len(s)-cut], l[:len(l)-1])
		}
	}
}

// P9.2, P9.4: bytes of logs without a rule, spoilt without a rule.
func TestOthersByTheWords(t *testing.T) {
	r := rand.New(rand.NewSource(3))
	for range 5000 {
		s := []byte(logByTheWords(random(r, r.Intn(8))))
		for range r.Intn(3) {
			at := r.Intn(len(s) + 1)
			s = slices.Insert(s, at, []byte(some(r.Int63(), r.Intn(3)))...)
		}
		if len(s) > 0 && r.Intn(2) == 0 {
			s[r.Intn(len(s))] = byte(r.Intn(256))
		}
		wantAsByTheWords(t, "spoilt", string(s[:len(s)-r.Intn(len(s)+1)>>r.Intn(8)]))
	}
}

// P1: a long log is gone through to its end.
func TestLongLogs(t *testing.T) {
	many := 200000
	wantScanned(t, "empty texts", strings.Repeat(recordByTheWords(""), many), make([]string, many), 5*many)
	wantRecovered(t, "changes", strings.Repeat(recordByTheWords("ca"), many), "", slices.Repeat([]string{"a"}, many))
	wantRecovered(t, "states", strings.Repeat(recordByTheWords("sa"), many), "a", nil)
}

// R1, R4: no answer hangs on a call ahead of it, nor on what is done to another answer, and no list that was handed in is changed.
func TestNothingIsKept(t *testing.T) {
	room := make([]string, 3, 10)
	copy(room, []string{"sone", "ca", "cb"})
	before := slices.Clone(room[:10])
	s := write(t, room)
	p := pack(t, "two", room)
	l, _ := log.Scan(s)
	_, later := log.Recover(s)
	clear(l)
	clear(later)
	_, _ = append(l[:0], "other"), append(later[:0], "other")
	log.Record(strings.Repeat("x", maxText+1))
	log.Pack("", []string{strings.Repeat("x", maxText)})
	log.Recover("\x00")
	if !slices.Equal(room[:10], before) {
		t.Errorf("%q", room[:10])
	}
	wantBytes(t, "Write again", write(t, room), s)
	wantBytes(t, "Pack again", pack(t, "two", room), p)
	wantCut(t, "Scan again", s, []string{"sone", "ca", "cb"})
	wantRecovered(t, "Recover again", s, "one", []string{"a", "b"})
}

func FuzzScan(f *testing.F) {
	for _, l := range rows()[:200] {
		f.Add(logByTheWords(l))
	}
	f.Fuzz(func(t *testing.T, s string) { wantAsByTheWords(t, "Scan", s) })
}

func FuzzPack(f *testing.F) {
	f.Add("one", "a", "b", 1)
	f.Add("", "", "", 0)
	f.Add(some(1, maxMarked), some(2, maxMarked), some(3, maxMarked), 3)
	f.Fuzz(func(t *testing.T, state, a, b string, cut int) {
		later := []string{a, b}
		if max(len(state), len(a), len(b)) > maxMarked {
			s, why := log.Pack(state, later)
			wantSizeError(t, "Pack", s, why)
			return
		}
		s := pack(t, state, later)
		wantRecovered(t, "Pack", s, state, later)
		if 0 <= cut && cut < len(s) {
			wantAsByTheWords(t, "cut", s[:cut])
		}
	})
}

func BenchmarkScan(b *testing.B) {
	s := logByTheWords(rows()[len(rows())-1])
	b.SetBytes(int64(len(s)))
	for range b.N {
		log.Scan(s)
	}
}

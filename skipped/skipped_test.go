package skipped_test

import (
	"crypto/hkdf"
	"crypto/sha256"
	"encoding/hex"
	"fmt"
	"math"
	"math/rand"
	"slices"
	"strings"
	"testing"

	"demurral/api"
	"demurral/skipped"
)

const (
	most    = 20
	mostGap = 10
	top     = math.MaxUint64
)

// some are bytes without a rule, the same at every run.
func some(seed int64, many int) string {
	b := make([]byte, many)
	rand.New(rand.NewSource(seed)).Read(b)
	return string(b)
}

func all(s string) string { return strings.Repeat(s, 32) }

// rising are the bytes 0, 1, 2 and so on.
func rising() string {
	var b []byte
	for i := range 32 {
		b = append(b, byte(i))
	}
	return string(b)
}

// turned is the text with one bit of it turned.
func turned(s string, bit int) string {
	b := []byte(s)
	b[bit/8] ^= 1 << (bit % 8)
	return string(b)
}

func raw(t *testing.T, s string) string {
	t.Helper()
	b, err := hex.DecodeString(s)
	if err != nil || len(b) != api.Size {
		t.Fatalf("%s: %d bytes, %v", s, len(b), err)
	}
	return string(b)
}

// ratchet and key are such without a rule, told faster than by some: tests have a lot of tables.
func ratchet(i int) string { return sumOf("ratchet", i) }

func key(i int) string { return sumOf("key", i) }

func sumOf(word string, i int) string {
	sum := sha256.Sum256(append([]byte(word), byte(i), byte(i>>8)))
	return string(sum[:])
}

// kept is a key of the tests' tables: of one of three ratchets, and a number that no other one has.
func kept(i int) api.Kept {
	return api.Kept{Ratchet: ratchet(i % 3), N: 1000 + uint64(i), Key: key(i)}
}

// table are so many keys, the first one of which has that place in the row of all.
func table(first, many int) []api.Kept {
	var out []api.Kept
	for i := range many {
		out = append(out, kept(first+i))
	}
	return out
}

// long are so many keys of one ratchet.
func long(many int) []api.Kept {
	out := make([]api.Kept, many)
	for i := range out {
		out[i] = api.Kept{Ratchet: ratchet(0), N: uint64(i), Key: key(0)}
	}
	return out
}

// sizes are of tables: none, one, and next to the limit.
func sizes() []int { return []int{0, 1, 2, 9, 10, 11, 18, 19, 20} }

// wrongKeys are of the sizes that the document does not allow: those next to 32 among them, and others that have 32 in their lowest bits.
func wrongKeys() []string {
	var out []string
	for _, many := range []int{0, 1, 16, 31, 33, 64, 256 + 32, 1<<16 + 32} {
		out = append(out, strings.Repeat("\x00", many), some(90, many))
	}
	return out
}

// edges are numbers next to those at which a number comes to a bit or a byte more, or to its end.
func edges() []uint64 {
	out := []uint64{0, 1, 2, 9, 10, 11, top - 11, top - 10, top - 9, top - 1, top}
	for _, bit := range []int{8, 16, 31, 32, 63} {
		n := uint64(1) << bit
		out = append(out, n-1, n, n+1)
	}
	return out
}

// changed is the table with one of its keys changed.
func changed(l []api.Kept, place int, change func(*api.Kept)) []api.Kept {
	out := slices.Clone(l)
	change(&out[place])
	return out
}

// wrongTables are such that may not be, each for one reason.
func wrongTables() map[string][]api.Kept {
	out := map[string][]api.Kept{
		"21 keys":            table(0, most+1),
		"22 keys":            table(0, most+2),
		"40 keys":            table(0, 2*most),
		"276 keys":           table(0, 256+most),
		"65556 keys":         long(1<<16 + most),
		"a key of nothing":   {{}},
		"21 keys of nothing": make([]api.Kept, most+1),
	}
	for _, many := range []int{1, 2, most} {
		for _, place := range []int{0, many / 2, many - 1} {
			for _, wrong := range wrongKeys() {
				name := fmt.Sprintf("%d keys, at %d, %d bytes", many, place, len(wrong))
				out[name+" of a ratchet"] = changed(table(0, many), place, func(k *api.Kept) { k.Ratchet = wrong })
				out[name+" of a key"] = changed(table(0, many), place, func(k *api.Kept) { k.Key = wrong })
			}
		}
	}
	for _, pair := range [][2]int{{0, 1}, {0, most - 1}, {5, 6}, {3, 17}, {most - 2, most - 1}} {
		l := table(0, most)
		out[fmt.Sprintf("the same at %d and %d", pair[0], pair[1])] = changed(l, pair[1], func(k *api.Kept) { *k = l[pair[0]] })
		out[fmt.Sprintf("the same ratchet and number at %d and %d", pair[0], pair[1])] = changed(l, pair[1], func(k *api.Kept) { k.Ratchet, k.N = l[pair[0]].Ratchet, l[pair[0]].N })
	}
	return out
}

// What follows, up to filledByTheWords, is the chapter's words; a chain's step is the library's HKDF.
func rightByTheWords(l []api.Kept) bool {
	seen := map[string]int{}
	for _, k := range l {
		seen[fmt.Sprintf("%x %d", k.Ratchet, k.N)]++
		if len(k.Ratchet) != 32 || len(k.Key) != 32 {
			return false
		}
	}
	return len(l) <= 20 && len(seen) == len(l)
}

// same holds all of two tables against each other.
func same(a, b []api.Kept) bool { return told(a) == told(b) }

func told(l []api.Kept) string {
	out := fmt.Sprintf("%d:", len(l))
	for _, k := range l {
		out += fmt.Sprintf(" (%x %d %x)", k.Ratchet, k.N, k.Key)
	}
	return out
}

func there(l []api.Kept, ratchet string, n uint64) int {
	for i := len(l) - 1; i >= 0; i-- {
		if l[i].N == n && l[i].Ratchet == ratchet {
			return i
		}
	}
	return -1
}

func putByTheWords(l []api.Kept, k api.Kept) []api.Kept {
	var out []api.Kept
	for i, x := range l {
		if i > 0 || len(l) < 20 {
			out = append(out, x)
		}
	}
	return append(out, k)
}

func takenByTheWords(l []api.Kept, place int) []api.Kept {
	var out []api.Kept
	for i, x := range l {
		if i != place {
			out = append(out, x)
		}
	}
	return out
}

func stepByTheWords(t *testing.T, c string) (string, string) {
	t.Helper()
	b, err := hkdf.Expand(sha256.New, []byte(c), "step", 64)
	if err != nil {
		t.Fatal(err)
	}
	return string(b[:32]), string(b[32:])
}

func filledByTheWords(t *testing.T, l []api.Kept, ratchet, c string, from uint64, many int) ([]api.Kept, string) {
	t.Helper()
	for i := range many {
		next, key := stepByTheWords(t, c)
		l, c = putByTheWords(l, api.Kept{Ratchet: ratchet, N: from + uint64(i), Key: key}), next
	}
	return l, c
}

func want(t *testing.T, what, got, wanted string) {
	t.Helper()
	if got != wanted {
		t.Errorf("%s: %x; wanted %x", what, got, wanted)
	}
}

func wantTable(t *testing.T, what string, got, wanted []api.Kept) {
	t.Helper()
	if !same(got, wanted) {
		t.Errorf("%s: %s\nwanted %s", what, told(got), told(wanted))
	}
}

func put(t *testing.T, l []api.Kept, k api.Kept) []api.Kept {
	t.Helper()
	out, why := skipped.Put(l, k)
	if why != api.OK || !skipped.Right(out) {
		t.Fatalf("put %x, %d in %s: %s, error %d", k.Ratchet, k.N, told(l), told(out), why)
	}
	return out
}

func take(t *testing.T, l []api.Kept, ratchet string, n uint64) (string, []api.Kept) {
	t.Helper()
	key, out, why := skipped.Take(l, ratchet, n)
	if why != api.OK || !skipped.Right(out) {
		t.Fatalf("take %x, %d of %s: %x, %s, error %d", ratchet, n, told(l), key, told(out), why)
	}
	return key, out
}

func fill(t *testing.T, l []api.Kept, ratchet, c string, from, to uint64) ([]api.Kept, string) {
	t.Helper()
	out, last, why := skipped.Fill(l, ratchet, c, from, to)
	if why != api.OK || !skipped.Right(out) {
		t.Fatalf("fill %s of %x, from %d to %d: %s, %x, error %d", told(l), ratchet, from, to, told(out), last, why)
	}
	return out, last
}

func wantNoPut(t *testing.T, what string, l []api.Kept, k api.Kept, wanted api.Errno) {
	t.Helper()
	out, why := skipped.Put(l, k)
	if len(out) != 0 || why != wanted {
		t.Errorf("Put, %s: %d keys, error %d; wanted error %d", what, len(out), why, wanted)
	}
}

func wantNoTake(t *testing.T, what string, l []api.Kept, ratchet string, n uint64, wanted api.Errno) {
	t.Helper()
	key, out, why := skipped.Take(l, ratchet, n)
	if key != "" || len(out) != 0 || why != wanted {
		t.Errorf("Take, %s: %x, %d keys, error %d; wanted error %d", what, key, len(out), why, wanted)
	}
}

func wantNoFill(t *testing.T, what string, l []api.Kept, ratchet, c string, from, to uint64, wanted api.Errno) {
	t.Helper()
	out, last, why := skipped.Fill(l, ratchet, c, from, to)
	if len(out) != 0 || last != "" || why != wanted {
		t.Errorf("Fill, %s, from %d to %d: %d keys, %x, error %d; wanted error %d", what, from, to, len(out), last, why, wanted)
	}
}

// P12.1: of each number of keys that may be, of none and of a nil list; with numbers at both ends; whether there is room behind the end or not.
func TestRightTables(t *testing.T) {
	for many := range most + 1 {
		if !skipped.Right(table(0, many)) {
			t.Errorf("%d keys: not right", many)
		}
		if !skipped.Right(table(0, 2*most)[:many]) {
			t.Errorf("%d keys, with others behind the end: not right", many)
		}
	}
	for name, l := range map[string][]api.Kept{
		"none":                              {},
		"nil":                               nil,
		"bytes 0":                           {{Ratchet: all("\x00"), Key: all("\x00")}},
		"numbers at both ends":              {{Ratchet: all("a"), N: top, Key: all("b")}, {Ratchet: all("a"), Key: all("b")}},
		"one key for all":                   {{Ratchet: all("a"), N: 1, Key: all("b")}, {Ratchet: all("a"), N: 2, Key: all("b")}, {Ratchet: all("c"), N: 1, Key: all("b")}},
		"a ratchet for a key":               {{Ratchet: all("a"), N: 1, Key: all("b")}, {Ratchet: all("b"), N: 1, Key: all("a")}},
		"numbers that fall":                 {{Ratchet: all("a"), N: 9, Key: all("b")}, {Ratchet: all("a"), N: 3, Key: all("b")}},
		"one number, 32 bits more":          {{Ratchet: all("a"), N: 1, Key: all("b")}, {Ratchet: all("a"), N: 1<<32 + 1, Key: all("b")}},
		"ratchets that differ in the end":   {{Ratchet: all("a"), N: 1, Key: all("b")}, {Ratchet: all("a")[:31] + "b", N: 1, Key: all("b")}},
		"ratchets that differ in the start": {{Ratchet: all("a"), N: 1, Key: all("b")}, {Ratchet: "b" + all("a")[:31], N: 1, Key: all("b")}},
	} {
		if !skipped.Right(l) {
			t.Errorf("%s: not right", name)
		}
	}
}

// P12.1
func TestWrongTables(t *testing.T) {
	for name, l := range wrongTables() {
		if skipped.Right(l) {
			t.Errorf("%s: right", name)
		}
	}
}

// P12.1: no two places may have the same ratchet and number, in a full table; either alone may be the same.
func TestNoTwoOfOneRow(t *testing.T) {
	l := table(0, most)
	for j := range most {
		for i := range j {
			if skipped.Right(changed(l, j, func(k *api.Kept) { k.Ratchet, k.N = l[i].Ratchet, l[i].N })) {
				t.Errorf("the same ratchet and number at %d and %d: right", i, j)
			}
			if !skipped.Right(changed(l, j, func(k *api.Kept) { k.Ratchet = l[i].Ratchet })) {
				t.Errorf("the same ratchet at %d and %d: not right", i, j)
			}
			if l[i].Ratchet != l[j].Ratchet && !skipped.Right(changed(l, j, func(k *api.Kept) { k.N = l[i].N })) {
				t.Errorf("the same number at %d and %d: not right", i, j)
			}
			if !skipped.Right(changed(l, j, func(k *api.Kept) { k.Key = l[i].Key })) {
				t.Errorf("the same key at %d and %d: not right", i, j)
			}
		}
	}
}

// P12.1: a ratchet or key of a wrong size in any place.
func TestNoWrongSizes(t *testing.T) {
	for _, many := range sizes() {
		for place := range many {
			for _, wrong := range wrongKeys() {
				if skipped.Right(changed(table(0, many), place, func(k *api.Kept) { k.Ratchet = wrong })) {
					t.Errorf("a ratchet of %d bytes at %d of %d: right", len(wrong), place, many)
				}
				if skipped.Right(changed(table(0, many), place, func(k *api.Kept) { k.Key = wrong })) {
					t.Errorf("a key of %d bytes at %d of %d: right", len(wrong), place, many)
				}
			}
			l := table(0, many)
			if skipped.Right(changed(l, place, func(k *api.Kept) { k.Ratchet, k.Key = k.Ratchet+k.Key[:1], k.Key[1:] })) {
				t.Errorf("33 and 31 bytes at %d of %d: right", place, many)
			}
		}
	}
}

func wantUnlike(t *testing.T, what string, a, b []api.Kept) {
	t.Helper()
	if skipped.Like(a, b) || skipped.Like(b, a) {
		t.Errorf("%s: like", what)
	}
}

func wantLike(t *testing.T, what string, a, b []api.Kept) {
	t.Helper()
	if !skipped.Like(a, b) || !skipped.Like(b, a) {
		t.Errorf("%s: unlike", what)
	}
}

// P12.1: tables that may be, and such that may not; none is as a nil list; what is behind the end is not of account.
func TestLike(t *testing.T) {
	wantLike(t, "none and nil", []api.Kept{}, nil)
	wantLike(t, "nil and nil", nil, nil)
	wantUnlike(t, "none and a key of nothing", nil, []api.Kept{{}})
	for _, many := range append(sizes(), most+1, 2*most) {
		l := table(0, many)
		wantLike(t, "one table", l, l)
		wantLike(t, "a table told twice", l, table(0, many))
		wantLike(t, "one with others behind the end", l, append(table(0, many), kept(99))[:many])
		wantUnlike(t, "one more at the end", l, append(table(0, many), kept(99)))
		wantUnlike(t, "one more at the beginning", l, append([]api.Kept{kept(99)}, l...))
		if many > 0 {
			wantUnlike(t, "a nil list", l, nil)
			wantUnlike(t, "the last one twice", l, append(table(0, many), l[many-1]))
		}
		for place := range many {
			wantUnlike(t, "one less", l, takenByTheWords(l, place))
			for other := range place {
				wantUnlike(t, "another order", l, changed(changed(l, place, func(k *api.Kept) { *k = l[other] }), other, func(k *api.Kept) { *k = l[place] }))
			}
		}
	}
	for name, l := range wrongTables() {
		wantLike(t, name, l, slices.Clone(l))
	}
}

// P12.1: each bit of each field in each place.
func TestLikeLooksAtAll(t *testing.T) {
	for _, many := range []int{1, 3, most} {
		l := table(0, many)
		for place := range many {
			for bit := range 256 {
				wantUnlike(t, "a bit of a ratchet", l, changed(l, place, func(k *api.Kept) { k.Ratchet = turned(k.Ratchet, bit) }))
				wantUnlike(t, "a bit of a key", l, changed(l, place, func(k *api.Kept) { k.Key = turned(k.Key, bit) }))
			}
			for bit := range 64 {
				wantUnlike(t, "a bit of a number", l, changed(l, place, func(k *api.Kept) { k.N ^= 1 << bit }))
			}
			wantUnlike(t, "a byte less of a ratchet", l, changed(l, place, func(k *api.Kept) { k.Ratchet = k.Ratchet[:31] }))
			wantUnlike(t, "a byte more of a key", l, changed(l, place, func(k *api.Kept) { k.Key += "\x00" }))
			wantUnlike(t, "a byte of the ratchet in the key", l, changed(l, place, func(k *api.Kept) { k.Ratchet, k.Key = k.Ratchet[:31], k.Ratchet[31:]+k.Key }))
			wantUnlike(t, "the ratchet for the key", l, changed(l, place, func(k *api.Kept) { k.Ratchet, k.Key = k.Key, k.Ratchet }))
		}
	}
}

// P12.2: the key comes last; of 20 the first one goes.
func TestPut(t *testing.T) {
	for many := range most + 1 {
		l := table(0, many)
		got := put(t, l, kept(many))
		wantTable(t, "with one more", got, putByTheWords(l, kept(many)))
		if len(got) != min(many+1, most) || got[len(got)-1] != kept(many) {
			t.Errorf("%d keys, and one more: %d keys", many, len(got))
		}
	}
	var l []api.Kept
	for i := range 3*most + 1 {
		l = put(t, l, kept(i))
		first := max(i+1-most, 0)
		wantTable(t, "many, one by one", l, table(first, i+1-first))
	}
}

// P12.2: a number as any other, at both ends too; a key that another one has too.
func TestPutEdges(t *testing.T) {
	for _, n := range edges() {
		for _, many := range []int{0, 1, most - 1, most} {
			for _, k := range []api.Kept{{Ratchet: all("a"), N: n, Key: all("b")}, {Ratchet: all("\x00"), N: n, Key: all("\x00")}, {Ratchet: ratchet(0), N: n, Key: key(0)}} {
				l := table(0, many)
				wantTable(t, "at an edge", put(t, l, k), putByTheWords(l, k))
			}
		}
	}
}

// P12.2: the same ratchet with another number and the same number with another ratchet are others, by whatever bit they differ.
func TestPutOthers(t *testing.T) {
	for _, many := range sizes() {
		l := table(0, many)
		for place, x := range l {
			for bit := range 64 {
				k := api.Kept{Ratchet: x.Ratchet, N: x.N ^ 1<<bit, Key: x.Key}
				if there(l, k.Ratchet, k.N) < 0 {
					wantTable(t, "another number", put(t, l, k), putByTheWords(l, k))
				}
			}
			for bit := place; bit < 256; bit += 17 {
				k := api.Kept{Ratchet: turned(x.Ratchet, bit), N: x.N, Key: x.Key}
				wantTable(t, "another ratchet", put(t, l, k), putByTheWords(l, k))
			}
		}
	}
}

// P12.2: in any place, also of a full table, of which the first one would go; the key may be another one.
func TestPutOld(t *testing.T) {
	for _, many := range sizes() {
		l := table(0, many)
		for _, k := range l {
			wantNoPut(t, "one that is there", l, k, api.ErrOld)
			k.Key = all("x")
			wantNoPut(t, "one that is there with another key", l, k, api.ErrOld)
		}
	}
}

// P12.2
func TestPutWrong(t *testing.T) {
	for _, many := range sizes() {
		l := table(0, many)
		for _, wrong := range wrongKeys() {
			wantNoPut(t, "a wrong ratchet", l, api.Kept{Ratchet: wrong, N: 5, Key: all("b")}, api.ErrSize)
			wantNoPut(t, "a wrong key", l, api.Kept{Ratchet: all("a"), N: 5, Key: wrong}, api.ErrSize)
			wantNoPut(t, "both wrong", l, api.Kept{Ratchet: wrong, N: 5, Key: wrong}, api.ErrSize)
			if many > 0 {
				wantNoPut(t, "a wrong key of one that is there", l, api.Kept{Ratchet: l[0].Ratchet, N: l[0].N, Key: wrong}, api.ErrSize)
			}
		}
		wantNoPut(t, "31 and 33 bytes", l, api.Kept{Ratchet: all("a")[:31], Key: all("b") + "b"}, api.ErrSize)
		wantNoPut(t, "a key of nothing", l, api.Kept{}, api.ErrSize)
	}
}

// P12.1: a table that may not be comes ahead of all else.
func TestPutInWrongTables(t *testing.T) {
	for name, l := range wrongTables() {
		wantNoPut(t, name, l, kept(99), api.ErrArg)
		wantNoPut(t, name+", one that is there", l, l[0], api.ErrArg)
		wantNoPut(t, name+", a wrong ratchet", l, api.Kept{Key: all("b")}, api.ErrArg)
		wantNoPut(t, name+", a wrong key", l, api.Kept{Ratchet: all("a")}, api.ErrArg)
	}
}

// P12.2: each place of tables of each size; the first one, one in the middle and the last one among them.
func TestTake(t *testing.T) {
	for many := range most + 1 {
		l := table(0, many)
		for place, k := range l {
			key, left := take(t, l, k.Ratchet, k.N)
			want(t, "the key", key, k.Key)
			wantTable(t, "without it", left, takenByTheWords(l, place))
			wantNoTake(t, "twice", left, k.Ratchet, k.N, api.ErrNone)
		}
	}
}

// P12.2: at both ends of numbers, where ratchet and number alone are of account.
func TestTakeEdges(t *testing.T) {
	for _, n := range edges() {
		l := []api.Kept{{Ratchet: all("a"), N: n, Key: all("b")}, {Ratchet: all("b"), N: n, Key: all("a")}, {Ratchet: all("a"), N: n + 1, Key: all("b")}}
		for place, k := range l {
			key, left := take(t, l, k.Ratchet, k.N)
			want(t, "the key", key, k.Key)
			wantTable(t, "without it", left, takenByTheWords(l, place))
		}
		wantNoTake(t, "another number", l, all("a"), n-1, api.ErrNone)
		wantNoTake(t, "another ratchet", l, all("c"), n, api.ErrNone)
		wantNoTake(t, "of none", nil, all("a"), n, api.ErrNone)
		wantNoTake(t, "of none", []api.Kept{}, all("\x00"), n, api.ErrNone)
	}
}

// P12.2: a ratchet that no table may have is of none that is there.
func TestTakeNone(t *testing.T) {
	for _, many := range sizes() {
		l := table(0, many)
		for place, k := range l {
			for bit := range 64 {
				if there(l, k.Ratchet, k.N^1<<bit) < 0 {
					wantNoTake(t, "another number", l, k.Ratchet, k.N^1<<bit, api.ErrNone)
				}
			}
			for bit := place; bit < 256; bit += 17 {
				wantNoTake(t, "another ratchet", l, turned(k.Ratchet, bit), k.N, api.ErrNone)
			}
			wantNoTake(t, "a key for the ratchet", l, k.Key, k.N, api.ErrNone)
			wantNoTake(t, "31 bytes of the ratchet", l, k.Ratchet[:31], k.N, api.ErrNone)
			wantNoTake(t, "a byte more", l, k.Ratchet+"\x00", k.N, api.ErrNone)
		}
		for _, wrong := range wrongKeys() {
			wantNoTake(t, "a wrong ratchet", l, wrong, 1000, api.ErrNone)
		}
		wantNoTake(t, "one behind the end", table(0, many+1)[:many], kept(many).Ratchet, kept(many).N, api.ErrNone)
	}
}

// P12.1
func TestTakeOfWrongTables(t *testing.T) {
	for name, l := range wrongTables() {
		wantNoTake(t, name, l, kept(99).Ratchet, kept(99).N, api.ErrArg)
		for _, k := range []api.Kept{l[0], l[len(l)/2], l[len(l)-1]} {
			wantNoTake(t, name+", one that is there", l, k.Ratchet, k.N, api.ErrArg)
		}
	}
}

// P12.3: as Python tells them: the chapter's example, from 3 to 5, and ten keys.
func TestFillExamples(t *testing.T) {
	for _, x := range []struct{ chain, first, second, behind, tenth, last, sum string }{
		{all("b"),
			"a55dd8a990904558a3633e848fbc3f29094a2a17e5227c7b69cc497399466e8d", "d8626a5e3fe0d79a94834bfb7e72f833c3d7494b8889eaa4a4d2e8f5e1eaa4dd",
			"cb79d5e5b59fed799841cf227bf4b6e6652061ccad5286f9c487557fd9ac43a4", "ae489244e90ada9e51810d139db8117f0a4a826f74ee0ff47fcee80a51d83192",
			"1e52ab1d07ebf0829cdda4cb15f1dc11d6b612c449cab653bfc4ed589d845727", "65ca805f8e3db3319b92091b114d241af65705247f5457e7333b8a7235f8a896"},
		{all("\x00"),
			"683bf6dc966d31ca6ffa797b147467f49ba6e8ccd4704f004032774e3656cd1c", "472f7587ce0299111a18ee19dc9aa046a1b022bc395bddea56bded7b081303bb",
			"c2df4fa701f2be98426e8bce0d0970ac8e8e685906394be11c1464efdcf7413c", "d306591f2a7d94137a49c99bd0f05f35045ec0f95b21f17e25e641bec231221b",
			"b98d2c2cbd499a7363332c4e967852d636ae4d159a0391b6ff56394822a96f36", "502ffb5e6ac98df9e9036115c734584b69f233efaa917adc6a13ca4bd2997ac0"},
		{all("\xff"),
			"bc60cae879c41d0b8ae725c1ab05f4eab0667a40f4ce891d2af9acb9245736b3", "0e1693d93f98815734b85501552c4dffbcf69166d7d84e805a6a4c1859bbb79b",
			"2eca105e17ff3084bb0e3988e36c785068c4481393d463e2d13956c5e6410dba", "2291aea156c24fc23db1194d24fcb6b0f42d70ca9de8195d0d520155ae90fc8c",
			"e9d36d06ca2b9923b2e46c25d16be8172689f75a2394e33dfe530a6dff58e3ed", "ba911378d5ecfa1daa56f96c79f0a5e582512aabf716f1912baa1f5df75be6f5"},
		{rising(),
			"1d6632353ffb3e5f2bd504a5d708e5f654a50965707d05cfe88d9ec4be9fa1ad", "35a8c99b8a160f97154794c3b9c407210ecc49d22534f1cd99126c88916bbb84",
			"4ffbbfa696066f5e5ce067395227bb50d92ee84c38328d3ad86b4409e6b573b9", "79e4f402ff858cf42623e37685dfa8009dc7b5dd455bd7df78368cd85930762f",
			"7bd9499d805fcfb241fc4c349ed3da5be9fd2e14843f3a0a950fa5cb74d89de4", "69550201e9ea62f512c851634db6fe0ad0bc056f50960af6f9c2c403740a7e2d"},
	} {
		first := api.Kept{Ratchet: all("r"), N: 3, Key: raw(t, x.first)}
		second := api.Kept{Ratchet: all("r"), N: 4, Key: raw(t, x.second)}
		l, behind := fill(t, nil, all("r"), x.chain, 3, 5)
		wantTable(t, "the keys of 3 and 4", l, []api.Kept{first, second})
		want(t, "the chain", behind, raw(t, x.behind))
		l, behind = fill(t, nil, all("r"), x.chain, 3, 13)
		keys := ""
		for _, k := range l {
			keys += k.Key
		}
		sum := sha256.Sum256([]byte(keys))
		want(t, "the sum of ten keys", string(sum[:]), raw(t, x.sum))
		want(t, "the tenth key", l[9].Key, raw(t, x.tenth))
		want(t, "the last chain", behind, raw(t, x.last))
	}
}

// P12.3: each table with each number of keys that may be; with more than 20 together, the first ones go.
func TestFillByTheWords(t *testing.T) {
	for many := range most + 1 {
		for steps := range mostGap + 1 {
			for _, point := range []string{ratchet(0), all("\x00"), ratchet(9)} {
				l, c := table(0, many), key(200+many)
				got, last := fill(t, l, point, c, 7, 7+uint64(steps))
				wanted, wantedLast := filledByTheWords(t, l, point, c, 7, steps)
				wantTable(t, "filled", got, wanted)
				want(t, "the chain", last, wantedLast)
				if len(got) != min(many+steps, most) {
					t.Errorf("%d keys, filled with %d: %d keys", many, steps, len(got))
				}
			}
		}
	}
}

// P12.3: numbers at both ends.
func TestFillEdges(t *testing.T) {
	for _, from := range edges() {
		for steps := range mostGap + 1 {
			if from > top-uint64(steps) {
				continue
			}
			for _, many := range []int{0, 1, most} {
				l := table(0, many)
				got, last := fill(t, l, all("a"), all("b"), from, from+uint64(steps))
				wanted, wantedLast := filledByTheWords(t, l, all("a"), all("b"), from, steps)
				wantTable(t, "filled", got, wanted)
				want(t, "the chain", last, wantedLast)
			}
		}
	}
	l, last := fill(t, table(0, 3), all("a"), all("b"), top, top)
	wantTable(t, "of none, at the end", l, table(0, 3))
	want(t, "the chain of none", last, all("b"))
}

// P12.3: up to a number, and from there on, is as at once; and is as put one by one.
func TestFillAndThenOn(t *testing.T) {
	for _, many := range sizes() {
		for _, from := range []uint64{0, 5, top - mostGap} {
			for steps := range uint64(mostGap + 1) {
				l := table(0, many)
				atOnce, last := fill(t, l, all("a"), key(300), from, from+steps)
				for first := range steps + 1 {
					got, c := fill(t, l, all("a"), key(300), from, from+first)
					got, c = fill(t, got, all("a"), c, from+first, from+steps)
					wantTable(t, "and then on", got, atOnce)
					want(t, "the chain", c, last)
				}
				one := l
				for i := range steps {
					k, _ := fill(t, nil, all("a"), key(300), from, from+steps)
					one = put(t, one, k[i])
				}
				wantTable(t, "one by one", one, atOnce)
			}
		}
	}
}

// P12.3: more keys than a table holds, on and on.
func TestFillOnAndOn(t *testing.T) {
	for size := uint64(1); size <= mostGap; size++ {
		l, c := table(0, 3), key(301)
		wanted, wantedLast := filledByTheWords(t, l, all("a"), c, 0, 60)
		for from := uint64(0); from < 60; from += size {
			l, c = fill(t, l, all("a"), c, from, min(from+size, 60))
		}
		wantTable(t, "60 keys", l, wanted)
		want(t, "the chain", c, wantedLast)
	}
}

// P12.3: one that is there in any place of the table, at any of the numbers: also where it would go while the table is filled. Those next to the numbers, and those of another ratchet, may be there.
func TestFillOld(t *testing.T) {
	for _, many := range []int{1, 2, 10, 11, 19, most} {
		for place := range many {
			for _, n := range []uint64{30, 31, 34, 38, 39} {
				l := changed(table(0, many), place, func(k *api.Kept) { k.Ratchet, k.N = all("a"), n })
				wantNoFill(t, "one that is there", l, all("a"), all("b"), 30, 40, api.ErrOld)
				wantNoFill(t, "the first one is there", l, all("a"), all("b"), n, n+1, api.ErrOld)
				wantNoFill(t, "the first one of ten is there", l, all("a"), all("b"), n, n+10, api.ErrOld)
				wantNoFill(t, "the last one of ten is there", l, all("a"), all("b"), n-9, n+1, api.ErrOld)
				fill(t, l, all("a"), all("b"), n, n)
				fill(t, l, all("a"), all("b"), n-10, n)
				fill(t, l, all("a"), all("b"), n+1, n+11)
				fill(t, l, all("c"), all("b"), 30, 40)
				fill(t, l, turned(all("a"), 255), all("b"), n, n+1)
			}
		}
	}
	for _, n := range []uint64{0, top - 1} {
		l := []api.Kept{{Ratchet: all("a"), N: n, Key: all("b")}}
		wantNoFill(t, "at an end", l, all("a"), all("b"), n, n+1, api.ErrOld)
		fill(t, l, all("a"), all("b"), n, n)
	}
	l := []api.Kept{{Ratchet: all("a"), N: top, Key: all("b")}, {Ratchet: all("a"), N: 0, Key: all("b")}}
	fill(t, l, all("a"), all("b"), top-mostGap, top)
	fill(t, l, all("a"), all("b"), 1, 11)
}

// P12.3: from a number to one that is 11 more, or less, or more than that; sizes that are small in their lowest bits, and such that go round, among them.
func TestFillGap(t *testing.T) {
	for _, many := range sizes() {
		l := table(0, many)
		for _, more := range []uint64{11, 12, 20, 21, 64, 65, 255, 256, 257, 266, 1 << 16, 1<<16 + 1, 1<<31 + 1, 1 << 32, 1<<32 + 1, 1<<32 + 10, 1 << 63, 1<<63 + 5, top - 10, top - 1, top} {
			for _, from := range edges() {
				wantNoFill(t, "too many, or backwards", l, all("a"), all("b"), from, from+more, api.ErrGap)
			}
		}
		for _, from := range edges() {
			for less := range uint64(12) {
				if less > 0 && less <= from {
					wantNoFill(t, "backwards", l, all("a"), all("b"), from, from-less, api.ErrGap)
				}
			}
		}
	}
	l := []api.Kept{{Ratchet: all("a"), N: 5, Key: all("b")}}
	wantNoFill(t, "too many, and one is there", l, all("a"), all("b"), 0, 11, api.ErrGap)
	wantNoFill(t, "too many, from one that is there", l, all("a"), all("b"), 5, 16, api.ErrGap)
	wantNoFill(t, "backwards, from one that is there", l, all("a"), all("b"), 5, 4, api.ErrGap)
	wantNoFill(t, "backwards, to one that is there", l, all("a"), all("b"), 6, 5, api.ErrGap)
}

// P12.3: ahead of a gap, and of one that is there; also where there is nothing to fill.
func TestFillWrong(t *testing.T) {
	for _, many := range sizes() {
		l := table(0, many)
		for _, wrong := range wrongKeys() {
			for _, to := range []uint64{7, 8, 17, 18, 6, 0, top} {
				wantNoFill(t, "a wrong ratchet", l, wrong, all("b"), 7, to, api.ErrSize)
				wantNoFill(t, "a wrong chain", l, all("a"), wrong, 7, to, api.ErrSize)
				wantNoFill(t, "both wrong", l, wrong, wrong, 7, to, api.ErrSize)
			}
			if many > 0 {
				wantNoFill(t, "a wrong chain, and one is there", l, l[0].Ratchet, wrong, l[0].N, l[0].N+1, api.ErrSize)
			}
		}
		wantNoFill(t, "31 and 33 bytes", l, all("a")[:31], all("b")+"b", 7, 8, api.ErrSize)
	}
}

// P12.1: a table that may not be comes ahead of all else.
func TestFillOfWrongTables(t *testing.T) {
	for name, l := range wrongTables() {
		for _, to := range []uint64{7, 8, 17, 18, 6} {
			wantNoFill(t, name, l, all("a"), all("b"), 7, to, api.ErrArg)
			wantNoFill(t, name+", a wrong ratchet", l, "", all("b"), 7, to, api.ErrArg)
			wantNoFill(t, name+", a wrong chain", l, all("a"), all("b")[:31], 7, to, api.ErrArg)
		}
		wantNoFill(t, name+", one that is there", l, l[0].Ratchet, all("b"), l[0].N, l[0].N+1, api.ErrArg)
	}
}

// P12.4: what was put is taken, once, in any order; and may be put again then.
func TestPutAndTaken(t *testing.T) {
	for seed := range int64(50) {
		var l []api.Kept
		for i := range most {
			l = put(t, l, kept(i))
		}
		for _, i := range rand.New(rand.NewSource(seed)).Perm(most) {
			k := kept(i)
			key, left := take(t, l, k.Ratchet, k.N)
			want(t, "the key", key, k.Key)
			wantNoTake(t, "again", left, k.Ratchet, k.N, api.ErrNone)
			again := put(t, left, k)
			if again[len(again)-1] != k || len(again) != len(l) {
				t.Errorf("put again: %s", told(again))
			}
			l = left
		}
		wantTable(t, "all taken", l, nil)
	}
}

// P12.4: what was put first goes first: not what has the lowest number; what was taken makes room.
func TestFirstGoesFirst(t *testing.T) {
	var l []api.Kept
	for i := range most {
		l = put(t, l, api.Kept{Ratchet: all("a"), N: uint64(i*7+5) % most, Key: key(i)})
	}
	for i := range most {
		gone := l[0]
		l = put(t, l, api.Kept{Ratchet: all("b"), N: uint64(i), Key: all("k")})
		wantNoTake(t, "one that went", l, gone.Ratchet, gone.N, api.ErrNone)
		if gone.N != uint64(i*7+5)%most {
			t.Errorf("number %d went", gone.N)
		}
		put(t, l, gone)
	}
	_, l = take(t, l, all("b"), 7)
	l = put(t, l, api.Kept{Ratchet: all("c"), Key: all("k")})
	if len(l) != most || l[0].N != 0 || l[0].Ratchet != all("b") || there(l, all("b"), 7) >= 0 {
		t.Errorf("with room: %s", told(l))
	}
}

// spot is what one of many calls is about: one of few ratchets and numbers, so that they often meet.
func spot(r *rand.Rand) (string, uint64) {
	return ratchet(r.Intn(2)), []uint64{0, top - 15}[r.Intn(2)] + uint64(r.Intn(16))
}

// P12.4: many calls one behind the other, held against the chapter's words; a table that may be stays one.
func TestManyCalls(t *testing.T) {
	for seed := range int64(60) {
		r := rand.New(rand.NewSource(400 + seed))
		var l []api.Kept
		for i := range 150 {
			point, n := spot(r)
			before := told(l)
			next := l
			switch place := there(l, point, n); r.Intn(3) {
			case 0:
				next = oneTake(t, l, point, n, place)
			case 1:
				next = onePut(t, l, api.Kept{Ratchet: point, N: n, Key: key(i)}, place)
			case 2:
				next = oneFill(t, l, point, key(i), n, n+uint64(r.Intn(14))-1)
			}
			want(t, "the table ahead", told(l), before)
			if l = next; !rightByTheWords(l) || !skipped.Right(l) {
				t.Fatalf("a table that may not be: %s", told(l))
			}
		}
	}
}

func oneTake(t *testing.T, l []api.Kept, ratchet string, n uint64, place int) []api.Kept {
	t.Helper()
	if place < 0 {
		wantNoTake(t, "none there", l, ratchet, n, api.ErrNone)
		return l
	}
	key, out := take(t, l, ratchet, n)
	want(t, "the key", key, l[place].Key)
	wantTable(t, "taken", out, takenByTheWords(l, place))
	return out
}

func onePut(t *testing.T, l []api.Kept, k api.Kept, place int) []api.Kept {
	t.Helper()
	if place >= 0 {
		wantNoPut(t, "one there", l, k, api.ErrOld)
		return l
	}
	out := put(t, l, k)
	wantTable(t, "put", out, putByTheWords(l, k))
	return out
}

func oneFill(t *testing.T, l []api.Kept, ratchet, c string, from, to uint64) []api.Kept {
	t.Helper()
	if to < from || to-from > mostGap {
		wantNoFill(t, "a gap", l, ratchet, c, from, to, api.ErrGap)
		return l
	}
	for i := range to - from {
		if there(l, ratchet, from+i) >= 0 {
			wantNoFill(t, "one there", l, ratchet, c, from, to, api.ErrOld)
			return l
		}
	}
	out, last := fill(t, l, ratchet, c, from, to)
	wanted, wantedLast := filledByTheWords(t, l, ratchet, c, from, int(to-from))
	wantTable(t, "filled", out, wanted)
	want(t, "the chain", last, wantedLast)
	return out
}

// answers are tables that calls tell of one: with one more, filled of none, one and ten, and without each; at another time, others are put there.
func answers(t *testing.T, l []api.Kept, time int) [][]api.Kept {
	t.Helper()
	none, _ := fill(t, l, ratchet(9+time), key(8), 5, 5)
	one, _ := fill(t, l, ratchet(9+time), key(8), 5, 6)
	ten, _ := fill(t, l, ratchet(9+time), key(8), 5, 15)
	out := [][]api.Kept{put(t, l, kept(50+2*time)), put(t, l, kept(51+2*time)), none, one, ten}
	for _, k := range l {
		_, left := take(t, l, k.Ratchet, k.N)
		out = append(out, left)
	}
	return out
}

func toldAll(l [][]api.Kept) []string {
	var out []string
	for _, x := range l {
		out = append(out, told(x))
	}
	return out
}

// roomy is a table with room behind its end, in which there are other keys, and all of that.
func roomy(many int) (l, whole []api.Kept) {
	whole = table(0, many+15)
	return whole[:many], whole
}

// R4: no call changes what it was handed, nor what stands in the room behind its end; what was told stays as it was when more is put, taken or filled behind the same table, or behind what was told.
func TestNothingIsChanged(t *testing.T) {
	for many := range most + 1 {
		l, whole := roomy(many)
		before := told(whole)
		first := answers(t, l, 0)
		toldFirst := toldAll(first)
		for _, x := range first {
			withRoom := told(x[:cap(x)])
			second := answers(t, x, 1)
			toldSecond := toldAll(second)
			answers(t, x, 2)
			want(t, "what was told, with its room", told(x[:cap(x)]), withRoom)
			if !slices.Equal(toldAll(second), toldSecond) {
				t.Errorf("%d keys: what was told of what was told was changed", many)
			}
		}
		answers(t, l, 3)
		skipped.Right(l)
		skipped.Like(l, whole)
		wantNoTake(t, "none", l, all("x"), 5, api.ErrNone)
		wantNoPut(t, "a key of nothing", l, api.Kept{}, api.ErrSize)
		wantNoFill(t, "a gap", l, all("x"), all("b"), 5, 16, api.ErrGap)
		want(t, "the table, with its room", told(whole), before)
		if !slices.Equal(toldAll(first), toldFirst) {
			t.Errorf("%d keys: what was told was changed", many)
		}
	}
}

// R4: what is done with an answer is not to be seen in the table, nor in another answer; what is done with the table is not to be seen in an answer.
func TestAnswersAreTheirOwn(t *testing.T) {
	for many := range most + 1 {
		l, whole := roomy(many)
		before := told(whole)
		first := answers(t, l, 0)
		wanted := toldAll(first)
		for i, x := range first {
			x = x[:cap(x)]
			for place := range x {
				x[place] = api.Kept{Ratchet: "changed"}
			}
			want(t, "the table", told(whole), before)
			if !slices.Equal(toldAll(first[i+1:]), wanted[i+1:]) {
				t.Errorf("%d keys: answer %d is not its own", many, i)
			}
		}
		again := answers(t, l, 0)
		for place := range whole {
			whole[place] = api.Kept{Key: "changed"}
		}
		if !slices.Equal(toldAll(again), wanted) {
			t.Errorf("%d keys: what was told changed with the table", many)
		}
	}
}

// R1: no answer hangs on a call ahead of it.
func TestNothingIsKept(t *testing.T) {
	l := table(0, most)
	wanted := toldAll(answers(t, l, 0))
	for i := range 5 {
		answers(t, table(60+i, most-i), 0)
		wantNoPut(t, "a wrong table", table(0, most+1), kept(99), api.ErrArg)
		if !slices.Equal(toldAll(answers(t, l, 0)), wanted) {
			t.Errorf("other answers at time %d", i)
		}
	}
}

// fuzzTable is a table of few ratchets, numbers and sizes, as bytes have them: one that may be or not.
func fuzzTable(s string) []api.Kept {
	var l []api.Kept
	for i := range min(len(s), most+2) {
		b := s[i]
		k := api.Kept{Ratchet: ratchet(int(b >> 7)), N: uint64(b & 63), Key: key(i)}
		if b == 255 {
			k.Ratchet = k.Ratchet[:31]
		}
		if b == 127 {
			k.Key += "\x00"
		}
		l = append(l, k)
	}
	return l
}

func FuzzAll(f *testing.F) {
	f.Add("", ratchet(0), all("b"), uint64(3), uint64(5))
	f.Add("\x01\x02\x03\x81\x82\x83", ratchet(1), all("b"), uint64(3), uint64(13))
	f.Add("0123456789abcdefghij", ratchet(0), all("b"), uint64(60), uint64(64))
	f.Add("0123456789abcdefghijk", ratchet(0), all("b"), uint64(0), uint64(1))
	f.Add("\xff", ratchet(0)[:31], "", uint64(5), uint64(4))
	f.Add("\x7f", ratchet(0)+"x", "", uint64(0), uint64(top))
	f.Add("\x05\x05", ratchet(0), all("\x00"), uint64(top-1), uint64(top))
	f.Fuzz(func(t *testing.T, bytes, point, c string, from, to uint64) {
		l := fuzzTable(bytes)
		k := api.Kept{Ratchet: point, N: from, Key: c}
		if skipped.Right(l) != rightByTheWords(l) {
			t.Fatalf("%s: right or not", told(l))
		}
		place := there(l, point, from)
		if !rightByTheWords(l) {
			wantNoPut(t, "a wrong table", l, k, api.ErrArg)
			wantNoTake(t, "a wrong table", l, point, from, api.ErrArg)
			wantNoFill(t, "a wrong table", l, point, c, from, to, api.ErrArg)
			return
		}
		oneTake(t, l, point, from, place)
		if len(point) != 32 || len(c) != 32 {
			wantNoPut(t, "a wrong size", l, k, api.ErrSize)
			wantNoFill(t, "a wrong size", l, point, c, from, to, api.ErrSize)
			return
		}
		onePut(t, l, k, place)
		oneFill(t, l, point, c, from, to)
	})
}

func BenchmarkFill(b *testing.B) {
	l := table(0, most)
	for range b.N {
		skipped.Fill(l, all("a"), all("b"), 5, 15)
	}
}

package prekeys_test

import (
	"crypto/sha256"
	"encoding/binary"
	"fmt"
	"math"
	"math/rand"
	"slices"
	"strconv"
	"strings"
	"testing"

	"demurral/api"
	"demurral/prekeys"
)

const (
	mostUsers = 8
	mostOnce  = 20
	top       = math.MaxUint64
)

func all(s string) string { return strings.Repeat(s, 32) }

// key are 32 bytes without a rule.
func key(i int) string {
	sum := sha256.Sum256(binary.BigEndian.AppendUint32([]byte("key"), uint32(i)))
	return string(sum[:])
}

// turned is the text with one bit of it turned.
func turned(s string, bit int) string {
	b := []byte(s)
	b[bit/8] ^= 1 << (bit % 8)
	return string(b)
}

// wrongPoints are of the sizes that the document does not allow: those next to 32 among them, and others that have 32 in their lowest bits.
func wrongPoints() []string {
	var out []string
	for _, many := range []int{0, 1, 16, 31, 33, 64, 256 + 32, 1<<16 + 32} {
		out = append(out, strings.Repeat("\x00", many), strings.Repeat("p", many))
	}
	return out
}

// point is a one-time one: no other place has its Id, and the Ids neither rise nor fall.
func point(i int) api.Point { return api.Point{Id: 1 + uint64(i)*37%1009, Point: key(i)} }

// points are so many, the first one of which has that place in the row of all.
func points(first, many int) []api.Point {
	var out []api.Point
	for i := range many {
		out = append(out, point(first+i))
	}
	return out
}

// shelf is a user's, with so many one-time points.
func shelf(user uint64, many int) api.Shelf {
	at := 2000 + int(user%1000)
	return api.Shelf{User: user, Identity: key(at), Signed: api.Point{Id: user ^ 5, Point: key(at + 1000)}, Once: points(int(user%7), many)}
}

// users rise, with both ends among them, and numbers whose lowest bits, or whose order with a sign, say otherwise.
func users() []uint64 { return []uint64{0, 3, 1<<8 + 1, 1<<31 + 2, 1 << 32, 1<<63 - 1, 1 << 63, top} }

// counts are of one-time points: none, one, and next to the limit.
func counts() []int { return []int{0, 1, 2, 10, 19, 20} }

// shelves are so many, each with another number of one-time points.
func shelves(many int) []api.Shelf {
	var out []api.Shelf
	for i, u := range users()[:many] {
		out = append(out, shelf(u, counts()[(i+5)%6]))
	}
	return out
}

// copied are the shelves as new memory.
func copied(l []api.Shelf) []api.Shelf {
	out := slices.Clone(l)
	for i := range out {
		out[i].Once = slices.Clone(out[i].Once)
	}
	return out
}

// changed are the shelves with one of them changed.
func changed(l []api.Shelf, at int, change func(*api.Shelf)) []api.Shelf {
	out := copied(l)
	change(&out[at])
	return out
}

func changedShelf(s api.Shelf, change func(*api.Shelf)) api.Shelf {
	return changed([]api.Shelf{s}, 0, change)[0]
}

func changedPoints(l []api.Point, at int, change func(*api.Point)) []api.Point {
	out := slices.Clone(l)
	change(&out[at])
	return out
}

// wrongOnce are lists of points that may not be one-time ones, each for one reason.
func wrongOnce() map[string][]api.Point {
	out := map[string][]api.Point{"a point of nothing": {{}}}
	for _, many := range []int{21, 22, 40, 256, 276} {
		l := make([]api.Point, many)
		for i := range l {
			l[i] = api.Point{Id: uint64(many - i), Point: all("o")}
		}
		out[fmt.Sprintf("%d points", many)] = l
	}
	for _, many := range []int{1, 2, mostOnce} {
		for _, at := range []int{0, many / 2, many - 1} {
			l := points(0, many)
			for _, wrong := range wrongPoints() {
				out[fmt.Sprintf("%d bytes at %d of %d", len(wrong), at, many)] = changedPoints(l, at, func(p *api.Point) { p.Point = wrong })
			}
			out[fmt.Sprintf("Id 0 at %d of %d", at, many)] = changedPoints(l, at, func(p *api.Point) { p.Id = 0 })
			if at > 0 {
				out[fmt.Sprintf("two Ids the same at 0 and %d of %d", at, many)] = changedPoints(l, at, func(p *api.Point) { p.Id = l[0].Id })
				out[fmt.Sprintf("two the same at 0 and %d of %d", at, many)] = changedPoints(l, at, func(p *api.Point) { *p = l[0] })
			}
		}
	}
	return out
}

// wrongShelves are a user's that may not be, each for one reason.
func wrongShelves(user uint64) map[string]api.Shelf {
	out := map[string]api.Shelf{"a shelf of nothing": {User: user}}
	for _, wrong := range wrongPoints() {
		out[fmt.Sprintf("Identity with %d bytes %.1q", len(wrong), wrong)] = changedShelf(shelf(user, 2), func(s *api.Shelf) { s.Identity = wrong })
		out[fmt.Sprintf("Signed with %d bytes %.1q", len(wrong), wrong)] = changedShelf(shelf(user, 2), func(s *api.Shelf) { s.Signed.Point = wrong })
	}
	out["31 and 33 bytes"] = changedShelf(shelf(user, 2), func(s *api.Shelf) { s.Identity, s.Signed.Point = all("i")[:31], all("s")+"s" })
	for name, l := range wrongOnce() {
		out[name] = changedShelf(shelf(user, 0), func(s *api.Shelf) { s.Once = l })
	}
	return out
}

// wrongLists are shelves that may not be, each for one reason.
func wrongLists() map[string][]api.Shelf {
	rising := func(many int) []api.Shelf {
		var out []api.Shelf
		for i := range many {
			out = append(out, shelf(uint64(i), i%3))
		}
		return out
	}
	l := shelves(mostUsers)
	out := map[string][]api.Shelf{
		"9 shelves": rising(9), "10 shelves": rising(10), "16 shelves": rising(16), "264 shelves": rising(264), "65544 shelves": rising(1<<16 + 8),
		"a user twice":                 {shelf(5, 1), shelf(5, 1)},
		"a user twice, at 0":           {shelf(0, 0), shelf(0, 0)},
		"a user twice, at the end":     {shelf(top, 0), shelf(top, 0)},
		"a user with two Identities":   {shelf(5, 1), changedShelf(shelf(5, 1), func(s *api.Shelf) { s.Identity = all("i") })},
		"users that fall":              {shelf(2, 1), shelf(1, 1)},
		"users that fall from the end": {shelf(top, 1), shelf(0, 1)},
		"users that rise with a sign":  {shelf(1<<63, 1), shelf(1, 1)},
		"users that rise in 32 bits":   {shelf(1<<32, 1), shelf(3, 1)},
		"the first one twice, apart":   {shelf(1, 1), shelf(2, 1), shelf(1, 1)},
		"shelves of nothing":           make([]api.Shelf, 2),
	}
	for i := range mostUsers - 1 {
		out[fmt.Sprintf("%d as %d", i, i+1)] = changed(l, i+1, func(s *api.Shelf) { s.User = l[i].User })
		out[fmt.Sprintf("%d and %d fall", i, i+1)] = changed(changed(l, i, func(s *api.Shelf) { *s = l[i+1] }), i+1, func(s *api.Shelf) { *s = l[i] })
	}
	for name, wrong := range wrongShelves(3) {
		out[name] = []api.Shelf{wrong}
		out[name+", behind another one"] = []api.Shelf{shelf(1, 1), wrong}
		out[name+", in front"] = []api.Shelf{wrong, shelf(1<<40, 2)}
	}
	return out
}

// What follows, up to leftByTheWords, is the chapter's words.
func onceByTheWords(l []api.Point) bool {
	for i, p := range l {
		if p.Id < 1 || len(p.Point) != 32 {
			return false
		}
		for _, q := range l[:i] {
			if p.Id == q.Id {
				return false
			}
		}
	}
	return true
}

func shelfByTheWords(s api.Shelf) bool {
	return len(s.Identity) == 32 && len(s.Signed.Point) == 32 && len(s.Once) <= 20 && onceByTheWords(s.Once)
}

func rightByTheWords(l []api.Shelf) bool {
	if len(l) > 8 {
		return false
	}
	for i, s := range l {
		for _, before := range l[:i] {
			if before.User >= s.User {
				return false
			}
		}
		if !shelfByTheWords(s) {
			return false
		}
	}
	return true
}

func there(l []api.Shelf, user uint64) int {
	for i := len(l) - 1; i >= 0; i-- {
		if l[i].User == user {
			return i
		}
	}
	return -1
}

func publishByTheWords(l []api.Shelf, s api.Shelf) ([]api.Shelf, api.Errno) {
	if !rightByTheWords(l) || !shelfByTheWords(s) {
		return nil, 1
	}
	at := there(l, s.User)
	if at >= 0 && l[at].Identity != s.Identity {
		return nil, 3
	}
	if at < 0 && len(l) == 8 {
		return nil, 6
	}
	var out []api.Shelf
	for _, x := range l {
		if x.User != s.User {
			out = append(out, x)
		}
	}
	out = append(out, s)
	slices.SortFunc(out, func(a, b api.Shelf) int {
		if a.User < b.User {
			return -1
		}
		return 1
	})
	return out, 0
}

func fetchByTheWords(l []api.Shelf, user uint64) ([]api.Shelf, api.Shelf, api.Errno) {
	if !rightByTheWords(l) {
		return nil, api.Shelf{}, 1
	}
	at := there(l, user)
	if at < 0 {
		return nil, api.Shelf{}, 5
	}
	out := copied(l)
	fetched := l[at]
	fetched.Once = nil
	for i, p := range l[at].Once {
		if i == 0 {
			fetched.Once = []api.Point{p}
			out[at].Once = nil
		} else {
			out[at].Once = append(out[at].Once, p)
		}
	}
	return out, fetched, 0
}

func moreByTheWords(l []api.Shelf, user uint64, once []api.Point) ([]api.Shelf, api.Errno) {
	if !rightByTheWords(l) {
		return nil, 1
	}
	at := there(l, user)
	if at < 0 {
		return nil, 5
	}
	seen := map[uint64]int{}
	for _, p := range l[at].Once {
		seen[p.Id]++
	}
	for _, p := range once {
		if seen[p.Id]++; seen[p.Id] > 1 {
			return nil, 7
		}
	}
	if len(l[at].Once)+len(once) > 20 {
		return nil, 6
	}
	if !onceByTheWords(once) {
		return nil, 1
	}
	out := copied(l)
	for _, p := range once {
		out[at].Once = append(out[at].Once, p)
	}
	return out, 0
}

func leftByTheWords(l []api.Shelf, user uint64) (int, api.Errno) {
	if !rightByTheWords(l) {
		return 0, 1
	}
	if at := there(l, user); at >= 0 {
		return len(l[at].Once), 0
	}
	return 0, 5
}

// What follows tells things as they are, and how long texts are, too, so that no two things are told as one. It goes by append, since tests tell a lot of them.
func appendText(b []byte, s string) []byte {
	b = strconv.AppendInt(append(b, ' '), int64(len(s)), 10)
	return append(append(b, ':'), s...)
}

func appendPoints(b []byte, l []api.Point) []byte {
	b = append(strconv.AppendInt(b, int64(len(l)), 10), " points"...)
	for _, p := range l {
		b = appendText(strconv.AppendUint(append(b, ' '), p.Id, 10), p.Point)
	}
	return b
}

func appendShelf(b []byte, s api.Shelf) []byte {
	b = appendText(strconv.AppendUint(append(b, " user "...), s.User, 10), s.Identity)
	return appendPoints(appendPoints(b, []api.Point{s.Signed}), s.Once)
}

// appendShelves tells a list of none as no list is told.
func appendShelves(b []byte, l []api.Shelf) []byte {
	b = append(strconv.AppendInt(b, int64(len(l)), 10), " shelves"...)
	for _, s := range l {
		b = appendShelf(b, s)
	}
	return b
}

func toldPoints(l []api.Point) string { return string(appendPoints(nil, l)) }

func toldShelf(s api.Shelf) string { return string(appendShelf(nil, s)) }

func told(l []api.Shelf) string { return string(appendShelves(make([]byte, 0, 4096), l)) }

// toldWhole is all of the shelves, and what stands in the room behind the ends of all lists; of a great many, it is the first ones.
func toldWhole(l []api.Shelf) string {
	b := strconv.AppendInt(make([]byte, 0, 8192), int64(len(l)), 10)
	for _, s := range l[:min(cap(l), 100)] {
		b = strconv.AppendInt(append(b, " of "...), int64(len(s.Once)), 10)
		s.Once = s.Once[:min(cap(s.Once), 300)]
		b = appendShelf(b, s)
	}
	return string(b)
}

func want(t *testing.T, what, got, wanted string) {
	t.Helper()
	if got != wanted {
		t.Errorf("%s: %.2000q\nwanted %.2000q", what, got, wanted)
	}
}

func wantErr(t *testing.T, what string, got, wanted api.Errno) {
	t.Helper()
	if got != wanted {
		t.Errorf("%s: error %d; wanted error %d", what, got, wanted)
	}
}

// publish asks what the words say, and that all that was handed in stays.
func publish(t *testing.T, l []api.Shelf, s api.Shelf) ([]api.Shelf, api.Errno) {
	t.Helper()
	before, beforeShelf := toldWhole(l), toldWhole([]api.Shelf{s})
	wanted, wantedWhy := publishByTheWords(l, s)
	out, why := prekeys.Publish(l, s)
	wantErr(t, "Publish", why, wantedWhy)
	want(t, "Publish", told(out), told(wanted))
	want(t, "the shelves that were handed in", toldWhole(l), before)
	want(t, "the shelf that was handed in", toldWhole([]api.Shelf{s}), beforeShelf)
	if why == api.OK && !prekeys.Right(out) {
		t.Errorf("Publish: shelves that may not be: %q", told(out))
	}
	return out, why
}

// fetch asks what the words say, and that the shelves stay.
func fetch(t *testing.T, l []api.Shelf, user uint64) ([]api.Shelf, api.Shelf, api.Errno) {
	t.Helper()
	before := toldWhole(l)
	wanted, wantedShelf, wantedWhy := fetchByTheWords(l, user)
	out, s, why := prekeys.Fetch(l, user)
	wantErr(t, "Fetch", why, wantedWhy)
	want(t, "Fetch", told(out), told(wanted))
	want(t, "what is fetched", toldShelf(s), toldShelf(wantedShelf))
	want(t, "the shelves that were handed in", toldWhole(l), before)
	if why == api.OK && (!prekeys.Right(out) || !prekeys.Right([]api.Shelf{s})) {
		t.Errorf("Fetch: shelves that may not be: %q; %q", told(out), toldShelf(s))
	}
	return out, s, why
}

// more asks what the words say, and that all that was handed in stays.
func more(t *testing.T, l []api.Shelf, user uint64, once []api.Point) ([]api.Shelf, api.Errno) {
	t.Helper()
	before, beforeOnce := toldWhole(l), toldWhole([]api.Shelf{{Once: once}})
	wanted, wantedWhy := moreByTheWords(l, user, once)
	out, why := prekeys.More(l, user, once)
	wantErr(t, "More", why, wantedWhy)
	want(t, "More", told(out), told(wanted))
	want(t, "the shelves that were handed in", toldWhole(l), before)
	want(t, "the points that were handed in", toldWhole([]api.Shelf{{Once: once}}), beforeOnce)
	if why == api.OK && !prekeys.Right(out) {
		t.Errorf("More: shelves that may not be: %q", told(out))
	}
	return out, why
}

// left asks what the words say, and that the shelves stay.
func left(t *testing.T, l []api.Shelf, user uint64) (int, api.Errno) {
	t.Helper()
	before := toldWhole(l)
	wanted, wantedWhy := leftByTheWords(l, user)
	many, why := prekeys.Left(l, user)
	wantErr(t, "Left", why, wantedWhy)
	if many != wanted {
		t.Errorf("Left: %d; wanted %d", many, wanted)
	}
	want(t, "the shelves that were handed in", toldWhole(l), before)
	return many, why
}

// The want calls that follow ask for an error by its number, too: it does not hang on the words alone, as they are written here.
func wantPublish(t *testing.T, what string, l []api.Shelf, s api.Shelf, wanted api.Errno) []api.Shelf {
	t.Helper()
	out, why := publish(t, l, s)
	wantErr(t, "Publish, "+what, why, wanted)
	if wanted != api.OK && len(out) != 0 {
		t.Errorf("Publish, %s: %d shelves beside error %d", what, len(out), why)
	}
	return out
}

func wantFetch(t *testing.T, what string, l []api.Shelf, user uint64, wanted api.Errno) ([]api.Shelf, api.Shelf) {
	t.Helper()
	out, s, why := fetch(t, l, user)
	wantErr(t, "Fetch, "+what, why, wanted)
	if wanted != api.OK && (len(out) != 0 || s.User != 0 || s.Identity != "" || s.Signed != api.Point{} || len(s.Once) != 0) {
		t.Errorf("Fetch, %s: %d shelves and %q beside error %d", what, len(out), toldShelf(s), why)
	}
	return out, s
}

func wantMore(t *testing.T, what string, l []api.Shelf, user uint64, once []api.Point, wanted api.Errno) []api.Shelf {
	t.Helper()
	out, why := more(t, l, user, once)
	wantErr(t, "More, "+what, why, wanted)
	if wanted != api.OK && len(out) != 0 {
		t.Errorf("More, %s: %d shelves beside error %d", what, len(out), why)
	}
	return out
}

func wantLeft(t *testing.T, what string, l []api.Shelf, user uint64, wanted int) {
	t.Helper()
	if many, why := left(t, l, user); many != wanted || why != api.OK {
		t.Errorf("Left, %s: %d, error %d; wanted %d", what, many, why, wanted)
	}
}

func wantNoLeft(t *testing.T, what string, l []api.Shelf, user uint64, wanted api.Errno) {
	t.Helper()
	if many, why := left(t, l, user); many != 0 || why != wanted {
		t.Errorf("Left, %s: %d, error %d; wanted error %d", what, many, why, wanted)
	}
}

func wantRight(t *testing.T, what string, l []api.Shelf, wanted bool) {
	t.Helper()
	if got := prekeys.Right(l); got != wanted || rightByTheWords(l) != wanted {
		t.Errorf("Right, %s: %v; wanted %v", what, got, wanted)
	}
}

// The chapter's example: of 1 one-time point, it, and then none.
func TestTheChaptersExample(t *testing.T) {
	l := wantPublish(t, "the example's", nil, shelf(1, 1), api.OK)
	l, s := wantFetch(t, "the first time", l, 1, api.OK)
	if !slices.Equal(s.Once, points(1, 1)) {
		t.Errorf("the first time: %q", toldShelf(s))
	}
	l, s = wantFetch(t, "the second time", l, 1, api.OK)
	if len(s.Once) != 0 || s.Identity != shelf(1, 1).Identity || s.Signed != shelf(1, 1).Signed || s.User != 1 {
		t.Errorf("the second time: %q", toldShelf(s))
	}
	wantLeft(t, "behind it", l, 1, 0)
}

// P15.1: of each number of shelves that may be, of none and of a nil list; with each number of one-time points; whether there is room behind the end or not.
func TestRightShelves(t *testing.T) {
	for many := range mostUsers + 1 {
		wantRight(t, fmt.Sprint(many, " shelves"), shelves(many), true)
		wantRight(t, fmt.Sprint(many, " shelves, with others behind the end"), append(shelves(many), shelf(0, 0))[:many], true)
	}
	for many := range mostOnce + 1 {
		wantRight(t, fmt.Sprint(many, " one-time points"), []api.Shelf{shelf(9, many)}, true)
		wantRight(t, fmt.Sprint(many, " one-time points, with others behind the end"), []api.Shelf{changedShelf(shelf(9, 0), func(s *api.Shelf) { s.Once = append(points(0, many), api.Point{})[:many] })}, true)
	}
	same := func(many int) []api.Point {
		var out []api.Point
		for i := range many {
			out = append(out, api.Point{Id: uint64(many - i), Point: all("o")})
		}
		return out
	}
	bytes0 := api.Shelf{Identity: all("\x00"), Signed: api.Point{Point: all("\x00")}, Once: []api.Point{{Id: 1, Point: all("\x00")}}}
	for name, l := range map[string][]api.Shelf{
		"none":                   {},
		"nil":                    nil,
		"bytes 0":                {bytes0},
		"one shelf for all":      {bytes0, changedShelf(bytes0, func(s *api.Shelf) { s.User = 1 }), changedShelf(bytes0, func(s *api.Shelf) { s.User = 2 })},
		"user 0 alone":           {shelf(0, 3)},
		"the last user alone":    {shelf(top, 3)},
		"both ends":              {shelf(0, 3), shelf(top, 3)},
		"the last two":           {shelf(top-1, 3), shelf(top, 3)},
		"the first two":          {shelf(0, 3), shelf(1, 3)},
		"one point for all":      {changedShelf(shelf(1, 0), func(s *api.Shelf) { s.Once = same(20) })},
		"Signed's Id 0":          {changedShelf(shelf(1, 2), func(s *api.Shelf) { s.Signed.Id = 0 })},
		"Signed's Id the last":   {changedShelf(shelf(1, 2), func(s *api.Shelf) { s.Signed.Id = top })},
		"Signed's as a one-time": {changedShelf(shelf(1, 2), func(s *api.Shelf) { s.Signed = s.Once[1] })},
		"Ids at both ends":       {changedShelf(shelf(1, 2), func(s *api.Shelf) { s.Once[0].Id, s.Once[1].Id = top, 1 })},
		"Ids 32 bits apart":      {changedShelf(shelf(1, 3), func(s *api.Shelf) { s.Once[0].Id, s.Once[1].Id, s.Once[2].Id = 7, 1<<32+7, 1<<32 })},
	} {
		wantRight(t, name, l, true)
	}
}

// P15.1
func TestWrongShelves(t *testing.T) {
	for name, l := range wrongLists() {
		wantRight(t, name, l, false)
	}
	for name, s := range wrongShelves(5) {
		wantRight(t, name, []api.Shelf{s}, false)
	}
}

// P15.1: each shelf of 8 that may not be, each for one reason.
func TestWrongInEachPlace(t *testing.T) {
	l := shelves(mostUsers)
	for at := range l {
		for name, wrong := range wrongShelves(l[at].User) {
			wantRight(t, fmt.Sprint(name, " at ", at), changed(l, at, func(s *api.Shelf) { *s = wrong }), false)
		}
	}
	for at := range l {
		for other := range l {
			is := at == other
			wantRight(t, fmt.Sprintf("user of %d at %d", other, at), changed(l, at, func(s *api.Shelf) { s.User = users()[other] }), is)
		}
	}
}

// P15.1: no two one-time points of one Id in any two places, nor an Id 0, nor a wrong size in any place; the points themselves may be the same.
func TestWrongOnceInEachPlace(t *testing.T) {
	full := shelf(4, mostOnce)
	of := func(at int, change func(*api.Point)) []api.Shelf {
		return []api.Shelf{changedShelf(full, func(s *api.Shelf) { change(&s.Once[at]) })}
	}
	for j := range mostOnce {
		for i := range j {
			wantRight(t, fmt.Sprintf("one Id at %d and %d", i, j), of(j, func(p *api.Point) { p.Id = full.Once[i].Id }), false)
			wantRight(t, fmt.Sprintf("one point at %d and %d", i, j), of(j, func(p *api.Point) { p.Point = full.Once[i].Point }), true)
		}
		wantRight(t, fmt.Sprintf("Id 0 at %d", j), of(j, func(p *api.Point) { p.Id = 0 }), false)
		wantRight(t, fmt.Sprintf("the last Id at %d", j), of(j, func(p *api.Point) { p.Id = top }), true)
		for _, wrong := range wrongPoints() {
			wantRight(t, fmt.Sprintf("%d bytes at %d", len(wrong), j), of(j, func(p *api.Point) { p.Point = wrong }), false)
		}
	}
}

func wantLike(t *testing.T, what string, a, b []api.Shelf) {
	t.Helper()
	if !prekeys.Like(a, b) || !prekeys.Like(b, a) {
		t.Errorf("%s: unlike", what)
	}
}

func wantUnlike(t *testing.T, what string, a, b []api.Shelf) {
	t.Helper()
	if prekeys.Like(a, b) || prekeys.Like(b, a) {
		t.Errorf("%s: like", what)
	}
}

// P15.1: shelves that may be, and such that may not; none is as a nil list; what is behind the end is not of account.
func TestLike(t *testing.T) {
	wantLike(t, "none and nil", []api.Shelf{}, nil)
	wantLike(t, "nil and nil", nil, nil)
	wantUnlike(t, "none and a shelf of nothing", nil, []api.Shelf{{}})
	none := changedShelf(shelf(1, 0), func(s *api.Shelf) { s.Once = nil })
	empty := changedShelf(shelf(1, 0), func(s *api.Shelf) { s.Once = []api.Point{} })
	wantLike(t, "no points and a list of none", []api.Shelf{none}, []api.Shelf{empty})
	wantLike(t, "no points, with others behind the end", []api.Shelf{none}, []api.Shelf{changedShelf(none, func(s *api.Shelf) { s.Once = points(0, 3)[:0] })})
	for many := range mostUsers + 1 {
		l := shelves(many)
		wantLike(t, "one list", l, l)
		wantLike(t, "a list told twice", l, shelves(many))
		wantLike(t, "one with others behind the end", l, append(shelves(many), shelf(1, 1))[:many])
		wantUnlike(t, "one more at the end", l, append(shelves(many), shelf(1, 1)))
		wantUnlike(t, "one more at the beginning", l, append([]api.Shelf{shelf(1, 1)}, l...))
		for at := range many {
			wantUnlike(t, "one less", l, slices.Delete(shelves(many), at, at+1))
			wantUnlike(t, "one twice", l, slices.Insert(shelves(many), at, l[at]))
			for other := range at {
				wantUnlike(t, "another order", l, changed(changed(l, at, func(s *api.Shelf) { *s = l[other] }), other, func(s *api.Shelf) { *s = l[at] }))
			}
		}
	}
	for name, l := range wrongLists() {
		wantLike(t, name, l, copied(l))
	}
}

// P15.1: each bit of each field, and each point of each place.
func TestLikeLooksAtAll(t *testing.T) {
	for _, many := range []int{1, mostUsers} {
		l := shelves(many)
		for at := range many {
			differ := func(what string, change func(*api.Shelf)) {
				t.Helper()
				wantUnlike(t, what, l, changed(l, at, change))
			}
			for bit := range 256 {
				differ("a bit of the Identity", func(s *api.Shelf) { s.Identity = turned(s.Identity, bit) })
				differ("a bit of the Signed point", func(s *api.Shelf) { s.Signed.Point = turned(s.Signed.Point, bit) })
			}
			for bit := range 64 {
				differ("a bit of the User", func(s *api.Shelf) { s.User ^= 1 << bit })
				differ("a bit of the Signed Id", func(s *api.Shelf) { s.Signed.Id ^= 1 << bit })
			}
			differ("a byte less of the Identity", func(s *api.Shelf) { s.Identity = s.Identity[:31] })
			differ("a byte more of the Signed point", func(s *api.Shelf) { s.Signed.Point += "\x00" })
			differ("one for the other", func(s *api.Shelf) { s.Identity, s.Signed.Point = s.Signed.Point, s.Identity })
			differ("a point more", func(s *api.Shelf) { s.Once = append(s.Once, point(99)) })
			differ("a point of nothing more", func(s *api.Shelf) { s.Once = append(s.Once, api.Point{}) })
			for i := range l[at].Once {
				differ("a point less", func(s *api.Shelf) { s.Once = slices.Delete(s.Once, i, i+1) })
				differ("another Id", func(s *api.Shelf) { s.Once[i].Id ^= 1 << (3 * i) })
				differ("another point", func(s *api.Shelf) { s.Once[i].Point = turned(s.Once[i].Point, 13*i) })
				if i > 0 {
					differ("another order", func(s *api.Shelf) { s.Once[0], s.Once[i] = s.Once[i], s.Once[0] })
				}
			}
		}
	}
}

// P15.2: into none, and into each number of shelves, at each place: in front, between and behind.
func TestPublishNew(t *testing.T) {
	for _, l := range [][]api.Shelf{nil, {}, shelves(3)[:0]} {
		for _, user := range users() {
			for _, many := range counts() {
				out := wantPublish(t, "into none", l, shelf(user, many), api.OK)
				want(t, "one alone", told(out), told([]api.Shelf{shelf(user, many)}))
			}
		}
	}
	for at, user := range users() {
		for _, many := range counts() {
			l := slices.Delete(shelves(mostUsers), at, at+1)
			out := wantPublish(t, fmt.Sprint("as the one at ", at), l, shelf(user, many), api.OK)
			want(t, "the eighth one", toldShelf(out[at]), toldShelf(shelf(user, many)))
			for _, fewer := range []int{1, 2, 3, 6} {
				wantPublish(t, "with fewer", l[:fewer], shelf(user, many), api.OK)
				wantPublish(t, "with fewer, the last ones", l[7-fewer:], shelf(user, many), api.OK)
			}
		}
	}
	for _, next := range []uint64{1, 2, 4, 1 << 8, 1<<31 + 1, 1<<31 + 3, 1<<32 - 1, 1<<32 + 1, 1<<63 - 2, 1<<63 + 1, top - 1} {
		for many := range mostUsers {
			wantPublish(t, "next to another one", shelves(many), shelf(next, 2), api.OK)
		}
	}
}

// P15.2: in any order, they stand as their users rise.
func TestPublishInAnyOrder(t *testing.T) {
	for seed := range int64(30) {
		var l []api.Shelf
		for _, at := range rand.New(rand.NewSource(seed)).Perm(mostUsers) {
			l = wantPublish(t, "one more", l, shelves(mostUsers)[at], api.OK)
		}
		want(t, "all", told(l), told(shelves(mostUsers)))
	}
}

// P15.2: in place of the user's with the same Identity: all but that is new, and nothing of the one that was there stays.
func TestPublishInPlace(t *testing.T) {
	for many := range mostUsers + 1 {
		l := shelves(many)
		for at, was := range l {
			for name, change := range map[string]func(*api.Shelf){
				"the same":              func(s *api.Shelf) {},
				"another Signed point":  func(s *api.Shelf) { s.Signed.Point = all("n") },
				"another Signed Id":     func(s *api.Shelf) { s.Signed.Id++ },
				"Signed's Id 0":         func(s *api.Shelf) { s.Signed.Id = 0 },
				"other Ids":             func(s *api.Shelf) { s.Once = points(500, len(s.Once)) },
				"one more or less":      func(s *api.Shelf) { s.Once = points(500, (len(s.Once)+1)%21) },
				"one-time points: none": func(s *api.Shelf) { s.Once = nil },
				"one-time points: full": func(s *api.Shelf) { s.Once = points(40, mostOnce) },
				"backwards":             func(s *api.Shelf) { slices.Reverse(s.Once) },
				"other points, one Id":  func(s *api.Shelf) { s.Once = []api.Point{{Id: 1, Point: all("q")}} },
			} {
				s := changedShelf(was, change)
				out := wantPublish(t, name, l, s, api.OK)
				want(t, name, told(out), told(changed(l, at, func(x *api.Shelf) { *x = s })))
			}
		}
	}
}

// P15.2: with another Identity, by whatever bit, also where there are 8; that of another user does not do.
func TestPublishAnotherIdentity(t *testing.T) {
	for many := range mostUsers + 1 {
		l := shelves(many)
		for at, was := range l {
			for bit := at; bit < 256; bit += 15 {
				wantPublish(t, "another Identity", l, changedShelf(was, func(s *api.Shelf) { s.Identity = turned(s.Identity, bit) }), api.ErrAuth)
			}
			wantPublish(t, "the Signed point for it", l, changedShelf(was, func(s *api.Shelf) { s.Identity = s.Signed.Point }), api.ErrAuth)
			other := l[(at+1)%many]
			if many > 1 {
				wantPublish(t, "another user's Identity", l, changedShelf(was, func(s *api.Shelf) { s.Identity = other.Identity }), api.ErrAuth)
				wantPublish(t, "another user's shelf", l, changedShelf(other, func(s *api.Shelf) { s.User = was.User }), api.ErrAuth)
			}
		}
		if many < mostUsers && many > 0 {
			wantPublish(t, "a new user with the Identity of another one", l, changedShelf(l[0], func(s *api.Shelf) { s.User = top }), api.OK)
		}
	}
}

// P15.2: with 7 there is room for one; with 8 for none, but in place of one.
func TestPublishFull(t *testing.T) {
	l := shelves(mostUsers)
	for _, user := range []uint64{1, 2, 4, 1 << 8, 1<<31 + 3, 1<<63 + 1, top - 1} {
		for _, many := range counts() {
			wantPublish(t, "a ninth", l, shelf(user, many), api.ErrFull)
			wantPublish(t, "an eighth", l[:7], shelf(user, many), api.OK)
			wantPublish(t, "an eighth", l[1:], shelf(user, many), api.OK)
		}
	}
	for at, s := range l {
		wantPublish(t, "one that is there", l, s, api.OK)
		s.User++ // of both ends the one is there, the other one is not
		wanted := api.ErrFull
		if there(l, s.User) >= 0 {
			wanted = api.ErrAuth
		}
		wantPublish(t, fmt.Sprint("the user behind ", at), l, s, wanted)
	}
}

// P15.2: a shelf that may not be, ahead of the other errors.
func TestPublishWrong(t *testing.T) {
	for _, many := range []int{0, 1, 2, 7, mostUsers} {
		l := shelves(many)
		for _, user := range []uint64{0, 3, 5, top} {
			for name, wrong := range wrongShelves(user) {
				wantPublish(t, name, l, wrong, api.ErrArg)
				if many > 0 {
					wrong.User = l[many-1].User
					wantPublish(t, name+", of a user that is there", l, wrong, api.ErrArg)
				}
			}
		}
	}
}

// P15.1: shelves that may not be, ahead of all else.
func TestWrongLists(t *testing.T) {
	for name, l := range wrongLists() {
		wantPublish(t, name, l, shelf(77, 2), api.ErrArg)
		wantPublish(t, name+", one that is there", l, l[0], api.ErrArg)
		wantPublish(t, name+", another Identity", l, changedShelf(shelf(l[0].User, 1), func(s *api.Shelf) { s.Identity = all("n") }), api.ErrArg)
		wantPublish(t, name+", a shelf of nothing", l, api.Shelf{}, api.ErrArg)
		for _, user := range []uint64{l[0].User, l[len(l)-1].User, 77, 0, top} {
			wantFetch(t, name, l, user, api.ErrArg)
			wantNoLeft(t, name, l, user, api.ErrArg)
			for _, once := range [][]api.Point{nil, points(600, 1), points(600, 21), {{}}, {{}, {}}, slices.Clone(l[0].Once[:min(len(l[0].Once), 30)])} {
				wantMore(t, name, l, user, once, api.ErrArg)
			}
		}
	}
}

// P15.3: with each number of one-time points, until there are none and some times more; the other shelves stay, and what is fetched is the shelf, but for Once.
func TestFetch(t *testing.T) {
	for at := range mostUsers {
		for many := range mostOnce + 1 {
			l := changed(shelves(mostUsers), at, func(s *api.Shelf) { s.Once = points(300, many) })
			was, others := l[at], slices.Delete(copied(l), at, at+1)
			for i := range many + 3 {
				next, s := wantFetch(t, "one", l, was.User, api.OK)
				wanted := points(300, many)[min(i, many):min(i+1, many)]
				if !slices.Equal(s.Once, wanted) || s.User != was.User || s.Identity != was.Identity || s.Signed != was.Signed {
					t.Errorf("%d one-time points, time %d: %q", many, i, toldShelf(s))
				}
				wantLeft(t, "behind it", next, was.User, max(many-i-1, 0))
				want(t, "the others", told(slices.Delete(copied(next), at, at+1)), told(others))
				l = next
			}
			want(t, "without one-time points", toldShelf(l[at]), toldShelf(changedShelf(was, func(s *api.Shelf) { s.Once = nil })))
		}
	}
}

// P15.3: of a user that has none: next to those that are there, by whatever bit, and of no shelves.
func TestFetchNone(t *testing.T) {
	for many := range mostUsers + 1 {
		l := shelves(many)
		for _, user := range append(users(), 1, 2, 4, 1<<31, 1<<32+3, 1<<63+3, top-1) {
			wanted := api.ErrNone
			if there(l, user) >= 0 {
				wanted = api.OK
			}
			wantFetch(t, "one or none", l, user, wanted)
		}
		for _, x := range l {
			for bit := range 64 {
				if user := x.User ^ 1<<bit; there(l, user) < 0 {
					wantFetch(t, "a bit beside", l, user, api.ErrNone)
					wantNoLeft(t, "a bit beside", l, user, api.ErrNone)
					wantMore(t, "a bit beside", l, user, points(600, 1), api.ErrNone)
				}
			}
		}
	}
	for _, l := range [][]api.Shelf{nil, {}, shelves(2)[:0]} {
		for _, user := range users() {
			wantFetch(t, "of no shelves", l, user, api.ErrNone)
		}
	}
}

// P15.3: Left of each number of one-time points, at each place.
func TestLeft(t *testing.T) {
	for at := range mostUsers {
		for many := range mostOnce + 1 {
			l := changed(shelves(mostUsers), at, func(s *api.Shelf) { s.Once = points(300, many) })
			wantLeft(t, fmt.Sprint(many), l, users()[at], many)
			wantLeft(t, "of shelves up to that", l[:at+1], users()[at], many)
			wantNoLeft(t, "of shelves ahead of that", l[:at], users()[at], api.ErrNone)
		}
	}
	for _, user := range users() {
		wantNoLeft(t, "of no shelves", nil, user, api.ErrNone)
		wantNoLeft(t, "of no shelves", []api.Shelf{}, user, api.ErrNone)
	}
}

// P15.3: with none, and as many as there is room for, they stand in order behind those that are there; with one more, there is no room.
func TestMore(t *testing.T) {
	for at, user := range users() {
		for many := range mostOnce + 1 {
			l := changed(shelves(mostUsers), at, func(s *api.Shelf) { s.Once = points(300, many) })
			for _, new := range []int{0, 1, 2, mostOnce - many - 1, mostOnce - many} {
				if new < 0 || many+new > mostOnce {
					continue
				}
				out := wantMore(t, "with room", l, user, points(400, new), api.OK)
				wanted := changed(l, at, func(s *api.Shelf) { s.Once = append(s.Once, points(400, new)...) })
				want(t, "with room", told(out), told(wanted))
				wantLeft(t, "then", out, user, many+new)
			}
			for _, new := range []int{1, 2, 20, 21, 64, 256, 256 - many, 276} {
				if new += mostOnce - many; new > 0 {
					wantMore(t, "without room", l, user, points(400, new), api.ErrFull)
				}
			}
			wantMore(t, "none, as an empty list", l, user, []api.Point{}, api.OK)
			wantMore(t, "none, with others behind the end", l, user, points(300, 5)[:0], api.OK)
		}
	}
}

// P15.3: numbers at both ends, and one point for all, which may be that of Signed or of one that is there.
func TestMoreEdges(t *testing.T) {
	for _, many := range []int{0, 1, 17} {
		l := []api.Shelf{shelf(5, many)}
		for _, new := range [][]api.Point{
			{{Id: top, Point: all("\x00")}, {Id: top - 1, Point: all("\x00")}, {Id: 1 << 63, Point: all("\x00")}},
			{{Id: 1 << 32, Point: all("\xff")}, {Id: 1 << 62, Point: all("\xff")}},
			{{Id: l[0].Signed.Id + 1<<40, Point: l[0].Signed.Point}},
			{{Id: 2000, Point: point(5).Point}},
			{{Id: 2000, Point: l[0].Identity}, {Id: 3000, Point: l[0].Identity}},
		} {
			wantMore(t, "at an edge", l, 5, new, api.OK)
		}
	}
	l := []api.Shelf{changedShelf(shelf(5, 2), func(s *api.Shelf) { s.Signed.Id = 777 })}
	wantMore(t, "Signed's Id", l, 5, []api.Point{{Id: 777, Point: all("m")}}, api.OK)
	l = []api.Shelf{shelf(4, 3), shelf(5, 0)}
	wantMore(t, "Ids that another user has", l, 5, l[0].Once, api.OK)
	for bit := range 64 {
		l := []api.Shelf{changedShelf(shelf(5, 1), func(s *api.Shelf) { s.Once[0].Id = 5 })}
		if id := uint64(5) ^ 1<<bit; id > 0 {
			wantMore(t, "an Id a bit beside", l, 5, []api.Point{{Id: id, Point: all("m")}}, api.OK)
		}
	}
	l = []api.Shelf{shelf(5, 1)}
	l, _ = wantFetch(t, "its only one", l, 5, api.OK)
	wantMore(t, "an Id that was there, and went", l, 5, points(5, 1), api.OK)
}

// P15.3: an Id that is there, at any place, or two new ones with one Id, at any places; whatever the points are.
func TestMoreOld(t *testing.T) {
	for _, many := range []int{0, 1, 2, 15, 19, mostOnce} {
		l := []api.Shelf{shelf(2, 3), changedShelf(shelf(5, 0), func(s *api.Shelf) { s.Once = points(300, many) }), shelf(9, 20)}
		for place, p := range l[1].Once {
			for _, new := range []int{1, 2, 4, 5, 20} {
				for at := range new {
					once := changedPoints(points(400, new), at, func(q *api.Point) { q.Id = p.Id })
					wantMore(t, fmt.Sprintf("the Id of %d at %d", place, at), l, 5, once, api.ErrOld)
				}
			}
			wantMore(t, "one that is there", l, 5, []api.Point{p}, api.ErrOld)
		}
		wantMore(t, "all that are there", l[1:2], 5, slices.Concat(points(400, 1), points(300, max(many, 1)), points(300, 1)), api.ErrOld)
		for _, new := range []int{2, 3, 5, 20, 21} {
			for j := range new {
				for i := range j {
					once := changedPoints(points(400, new), j, func(q *api.Point) { q.Id = point(400 + i).Id })
					wantMore(t, fmt.Sprintf("one Id at %d and %d", i, j), l, 5, once, api.ErrOld)
				}
			}
		}
	}
}

// P15.3: an Id 0, and points of wrong sizes, at each place; the others may be.
func TestMoreWrong(t *testing.T) {
	for _, many := range []int{0, 1, 15} {
		l := changed(shelves(4), 2, func(s *api.Shelf) { s.Once = points(300, many) })
		for _, new := range []int{1, 2, 5} {
			for at := range new {
				for _, wrong := range wrongPoints() {
					once := changedPoints(points(400, new), at, func(p *api.Point) { p.Point = wrong })
					wantMore(t, fmt.Sprintf("%d bytes at %d", len(wrong), at), l, l[2].User, once, api.ErrArg)
				}
				once := changedPoints(points(400, new), at, func(p *api.Point) { p.Id = 0 })
				wantMore(t, fmt.Sprintf("Id 0 at %d", at), l, l[2].User, once, api.ErrArg)
			}
		}
		wantMore(t, "a point of nothing", l, l[2].User, []api.Point{{}}, api.ErrArg)
		wantMore(t, "31 and 33 bytes", l, l[2].User, []api.Point{{Id: 2000, Point: all("m")[:31]}, {Id: 2001, Point: all("m") + "m"}}, api.ErrArg)
	}
}

// P15.3: where several errors hold at once, the one that the chapter lists first: shelves that may not be, no such user, an Id that is there (or twice), no room, a point that may not be.
func TestMoreErrorsInOrder(t *testing.T) {
	for set := range 1 << 5 {
		has := func(fault int) bool { return set>>fault&1 == 1 }
		l := []api.Shelf{shelf(2, 3), changedShelf(shelf(5, 0), func(s *api.Shelf) { s.Once = points(300, 10) })}
		user, once, wanted := uint64(5), points(400, 10), api.OK
		if has(4) {
			once[9].Point, wanted = all("m")[:31], api.ErrArg
		}
		if has(3) {
			once, wanted = append(once, points(430, 1)...), api.ErrFull
		}
		if has(2) {
			once[4].Id, wanted = l[1].Once[9].Id, api.ErrOld
		}
		if has(1) {
			user, wanted = 6, api.ErrNone
		}
		if has(0) {
			l[0].Signed.Point, wanted = "", api.ErrArg
		}
		wantMore(t, fmt.Sprintf("faults %05b", set), l, user, once, wanted)
	}
	l := []api.Shelf{shelf(5, 20)}
	wantMore(t, "two Ids 0", l, 5, []api.Point{{}, {}}, api.ErrOld)
	wantMore(t, "two Ids 0, with room", []api.Shelf{shelf(5, 2)}, 5, []api.Point{{Point: all("m")}, {Point: all("n")}}, api.ErrOld)
	wantMore(t, "an Id 0, without room", l, 5, []api.Point{{Point: all("m")}}, api.ErrFull)
	wantMore(t, "a point of nothing, without room", l, 5, []api.Point{{}}, api.ErrFull)
	wantMore(t, "a short point of an Id that is there", l, 5, []api.Point{{Id: l[0].Once[0].Id}}, api.ErrOld)
	wantMore(t, "none, without room", l, 5, nil, api.OK)
	wantMore(t, "a point of nothing for a user that has none", l, 6, []api.Point{{}, {}}, api.ErrNone)
}

// P15.2: where several errors hold at once: what may not be, ahead of another Identity, and of no room.
func TestPublishErrorsInOrder(t *testing.T) {
	for set := range 1 << 4 {
		has := func(fault int) bool { return set>>fault&1 == 1 }
		l, s, wanted := shelves(mostUsers), shelves(mostUsers)[3], api.OK
		if has(3) {
			s, wanted = shelf(77, 3), api.ErrFull
		}
		if has(2) { // of a user that has none, that is nothing
			s.Identity = all("n")
			if !has(3) {
				wanted = api.ErrAuth
			}
		}
		if has(1) {
			s.Once, wanted = points(0, 21), api.ErrArg
		}
		if has(0) {
			l[7].Once, wanted = []api.Point{{}}, api.ErrArg
		}
		wantPublish(t, fmt.Sprintf("faults %04b", set), l, s, wanted)
	}
}

// P1: a great many points are looked through within a moment; a pair at both ends is found.
func TestMoreOfAGreatMany(t *testing.T) {
	once := make([]api.Point, 300_000)
	for i := range once {
		once[i] = api.Point{Id: uint64(i)*0x9e3779b97f4a7c15 + 1, Point: all("m")}
	}
	l := []api.Shelf{shelf(5, 3)}
	if out, why := prekeys.More(l, 5, once); why != api.ErrFull || len(out) != 0 {
		t.Errorf("a great many: %d shelves, error %d", len(out), why)
	}
	once[len(once)-1].Id = once[0].Id
	if out, why := prekeys.More(l, 5, once); why != api.ErrOld || len(out) != 0 {
		t.Errorf("a great many, with a pair: %d shelves, error %d", len(out), why)
	}
	if out, why := prekeys.Publish(l, changedShelf(l[0], func(s *api.Shelf) { s.Once = once })); why != api.ErrArg || len(out) != 0 {
		t.Errorf("a shelf of a great many: %d shelves, error %d", len(out), why)
	}
}

// P15.4: whatever is fetched, of whom, and in which order: each one-time point is told once, in the order of its shelf; then the rest of the shelf still is.
func TestEachIsFetchedOnce(t *testing.T) {
	for seed := range int64(20) {
		r := rand.New(rand.NewSource(700 + seed))
		l, seen := shelves(mostUsers), map[uint64][]api.Point{}
		for range 300 {
			user := users()[r.Intn(mostUsers)]
			next, s := wantFetch(t, "one", l, user, api.OK)
			seen[user] = append(seen[user], s.Once...)
			l = next
		}
		for at, s := range shelves(mostUsers) {
			if !slices.Equal(seen[s.User], s.Once) || len(l[at].Once) != 0 {
				t.Errorf("user %d: told %q of %q", s.User, toldPoints(seen[s.User]), toldPoints(s.Once))
			}
		}
	}
}

// P15.4: what one user does, whatever it is, leaves all other shelves.
func TestOthersStay(t *testing.T) {
	for at, user := range users() {
		l := changed(shelves(mostUsers), at, func(s *api.Shelf) { s.Once = points(300, 9) })
		before := told(slices.Delete(copied(l), at, at+1))
		fetched, _ := wantFetch(t, "one", l, user, api.OK)
		for what, out := range map[string][]api.Shelf{
			"Fetch":   fetched,
			"More":    wantMore(t, "some", l, user, points(400, 11), api.OK),
			"Publish": wantPublish(t, "in place", l, changedShelf(l[at], func(s *api.Shelf) { s.Once = points(500, 20) }), api.OK),
			"New":     wantPublish(t, "anew", slices.Delete(copied(l), at, at+1), l[at], api.OK),
		} {
			if len(out) != mostUsers || told(slices.Delete(copied(out), at, at+1)) != before {
				t.Errorf("%s of user %d changed another one's: %q", what, user, told(out))
			}
		}
	}
}

// P15.4: behind More they are fetched in the order in which they came, those that were there ahead.
func TestFetchBehindMore(t *testing.T) {
	l := []api.Shelf{shelf(5, 0)}
	var queue []api.Point
	next := 0
	for i := range 200 {
		if new := i * 7 % 5; len(queue)+new <= mostOnce {
			once := points(next, new)
			next += new
			queue = append(queue, once...)
			l = wantMore(t, "some", l, 5, once, api.OK)
		}
		var s api.Shelf
		l, s = wantFetch(t, "one", l, 5, api.OK)
		many := min(1, len(queue))
		if !slices.Equal(s.Once, queue[:many]) {
			t.Fatalf("time %d: %q; wanted %q", i, toldPoints(s.Once), toldPoints(queue[:many]))
		}
		queue = queue[many:]
	}
}

// spoilt is one of many calls' shelves: often with a fault.
func spoilt(r *rand.Rand, s api.Shelf) api.Shelf {
	return changedShelf(s, func(s *api.Shelf) {
		switch r.Intn(12) {
		case 0:
			s.Identity = s.Identity[:31]
		case 1:
			s.Signed.Point += "x"
		case 2:
			s.Identity = all("n")
		case 3:
			s.Once = append(s.Once, api.Point{})
		case 4:
			s.Once = points(r.Intn(40), 21)
		}
	})
}

// P15.1 to P15.4: many calls one behind the other, held against the chapter's words; all errors come.
func TestManyCalls(t *testing.T) {
	var found [10]int
	for seed := range int64(60) {
		r := rand.New(rand.NewSource(800 + seed))
		var l []api.Shelf
		for range 150 {
			user, next, why := uint64(r.Intn(11)), l, api.OK
			switch r.Intn(5) {
			case 0, 1:
				next, why = publish(t, l, spoilt(r, shelf(user, r.Intn(21))))
			case 2:
				next, _, why = fetch(t, l, user)
			case 3:
				next, why = more(t, l, user, spoilt(r, api.Shelf{Identity: all("i"), Once: points(r.Intn(40), r.Intn(7))}).Once)
			case 4:
				_, why = left(t, l, user)
			}
			found[why]++
			if why == api.OK {
				l = next
			}
			wantRight(t, "behind a call", l, true)
		}
	}
	for _, why := range []api.Errno{api.OK, api.ErrArg, api.ErrAuth, api.ErrNone, api.ErrFull, api.ErrOld} {
		if found[why] < 20 {
			t.Errorf("error %d came %d times", why, found[why])
		}
	}
}

// roomy are shelves with room behind the ends of all lists, in which there are other things.
func roomy(many int) []api.Shelf {
	out := append(shelves(many), shelf(33, 4), shelf(34, 5), api.Shelf{})[:many]
	for i, s := range out {
		out[i].Once = roomyPoints(s.Once)
	}
	return out
}

func roomyPoints(l []api.Point) []api.Point {
	return append(slices.Clone(l), point(901), point(902), point(903), api.Point{Id: 9, Point: "room"})[:len(l)]
}

// answer is what a call tells: shelves, one shelf (or none), and what they were when they were told.
type answer struct {
	l      []api.Shelf
	s      api.Shelf
	before string
}

func answerOf(l []api.Shelf, s api.Shelf) answer {
	return answer{l, s, told(l) + toldShelf(s)}
}

func (a answer) stays(t *testing.T, what string) {
	t.Helper()
	want(t, what, told(a.l)+toldShelf(a.s), a.before)
}

// spoil writes over all of the lists of an answer, and over the room behind their ends.
func (a answer) spoil() {
	spoilShelves(a.l)
	spoilPoints(a.s.Once)
}

func spoilShelves(l []api.Shelf) {
	l = l[:cap(l)]
	for i, s := range l {
		spoilPoints(s.Once)
		l[i] = api.Shelf{User: 12345, Identity: "spoilt"}
	}
}

func spoilPoints(l []api.Point) {
	l = l[:cap(l)]
	for i := range l {
		l[i] = api.Point{Id: 54321, Point: "spoilt"}
	}
}

// answers are those of all calls that tell shelves, each of lists with room behind their ends; at another time, others are put there.
func answers(t *testing.T, l []api.Shelf, new api.Shelf, once []api.Point) []answer {
	t.Helper()
	var out []answer
	if len(l) < mostUsers {
		next, _ := publish(t, l, new)
		out = append(out, answerOf(next, api.Shelf{}))
	}
	for _, x := range l {
		next, _ := publish(t, l, changedShelf(x, func(s *api.Shelf) { s.Signed.Id++ }))
		own, _ := publish(t, l, x)
		fetched, s, _ := fetch(t, l, x.User)
		with, _ := more(t, l, x.User, once[:min(len(once), mostOnce-len(x.Once))])
		same, _ := more(t, l, x.User, once[:0])
		out = append(out, answerOf(next, api.Shelf{}), answerOf(own, api.Shelf{}), answerOf(fetched, s), answerOf(with, api.Shelf{}), answerOf(same, api.Shelf{}))
	}
	return out
}

// R4: no call changes what it was handed, nor what stands in the room behind its end; what is told of what was told leaves it.
func TestNothingIsChanged(t *testing.T) {
	new, once := changedShelf(shelf(50, 3), func(s *api.Shelf) { s.Once = roomyPoints(s.Once) }), roomyPoints(points(700, 2))
	for many := range mostUsers + 1 {
		l := roomy(many)
		before := toldWhole(l)
		first := answers(t, l, new, once)
		for _, a := range first {
			whole := toldWhole(a.l)
			answers(t, a.l, shelf(51, 4), roomyPoints(points(720, 3)))
			want(t, "what was told, with its room", toldWhole(a.l), whole)
		}
		prekeys.Right(l)
		prekeys.Like(l, copied(l))
		left(t, l, 77)
		for _, a := range first {
			a.stays(t, "what was told")
		}
		want(t, "the shelves, with their room", toldWhole(l), before)
	}
}

// R4: what is done with an answer is not to be seen in what was handed in, nor in another answer; no two lists of one answer are one; what is done with what was handed in is not to be seen in an answer.
func TestAnswersAreTheirOwn(t *testing.T) {
	for many := range mostUsers + 1 {
		new, once := changedShelf(shelf(50, 3), func(s *api.Shelf) { s.Once = roomyPoints(s.Once) }), roomyPoints(points(700, 2))
		handed := []string{toldWhole([]api.Shelf{new}), toldWhole([]api.Shelf{{Once: once}})}
		l := roomy(many)
		before := toldWhole(l)
		first := answers(t, l, new, once)
		for i, a := range first {
			a.spoil()
			want(t, "the shelves", toldWhole(l), before)
			want(t, "the new shelf", toldWhole([]api.Shelf{new}), handed[0])
			want(t, "the new points", toldWhole([]api.Shelf{{Once: once}}), handed[1])
			for _, later := range first[i+1:] {
				later.stays(t, "another answer")
			}
		}
		again := answers(t, l, new, once)
		spoilShelves(l)
		spoilPoints(new.Once)
		spoilPoints(once)
		for _, a := range again {
			a.stays(t, "an answer, when what was handed in is spoilt")
		}
	}
}

// R4: one list of an answer alone is spoilt: the others stay.
func TestListsOfAnAnswerAreTheirOwn(t *testing.T) {
	for many := 1; many <= mostUsers; many++ {
		for at := range mostUsers {
			for _, a := range answers(t, roomy(many), shelf(50, 3), points(700, 2)) {
				if at >= len(a.l) {
					continue
				}
				wanted := told(changed(a.l, at, func(s *api.Shelf) { s.Once = nil })) + toldShelf(a.s)
				spoilPoints(a.l[at].Once)
				a.l[at].Once = nil
				want(t, "all but one list", told(a.l)+toldShelf(a.s), wanted)
			}
		}
		for _, a := range answers(t, roomy(many), shelf(50, 3), points(700, 2)) {
			wanted := told(a.l)
			spoilPoints(a.s.Once)
			want(t, "the shelves beside what is fetched", told(a.l), wanted)
		}
	}
}

// R4: shelves that share one list of points, and points that are those of the shelf.
func TestSharedLists(t *testing.T) {
	once := roomyPoints(points(0, 5))
	l := []api.Shelf{shelf(1, 0), shelf(2, 0), shelf(3, 0)}
	for i := range l {
		l[i].Once = once
	}
	next, s := wantFetch(t, "of one list", l, 2, api.OK)
	wantLeft(t, "its own", next, 2, 4)
	wantLeft(t, "another one's", next, 3, 5)
	spoilPoints(next[0].Once)
	if !slices.Equal(next[1].Once, once[1:]) || !slices.Equal(next[2].Once, once) || !slices.Equal(s.Once, once[:1]) {
		t.Errorf("one list was shared: %q", told(next))
	}
	wantMore(t, "its own points", l, 1, once, api.ErrOld)
	l[0].Once = once[:2]
	want(t, "its own points behind the end", told(wantMore(t, "its own points behind the end", l, 1, once[2:], api.OK)[:1]), told([]api.Shelf{changedShelf(l[0], func(s *api.Shelf) { s.Once = once })}))
	l[0].Once = nil
	wantPublish(t, "the list of another one", l, changedShelf(shelf(4, 0), func(s *api.Shelf) { s.Once = l[1].Once }), api.OK)
}

// R1: no answer hangs on a call ahead of it: told again, backwards, with other calls between.
func TestNothingIsKept(t *testing.T) {
	var calls []func() string
	for many := range mostUsers + 1 {
		l := shelves(many)
		for _, user := range append(users(), 77) {
			calls = append(calls, func() string {
				next, s, why := prekeys.Fetch(l, user)
				return fmt.Sprint(told(next), toldShelf(s), why)
			}, func() string {
				next, why := prekeys.More(l, user, points(300, 3))
				return fmt.Sprint(told(next), why)
			}, func() string {
				next, why := prekeys.Publish(l, shelf(user, 4))
				return fmt.Sprint(told(next), why)
			}, func() string {
				left, why := prekeys.Left(l, user)
				return fmt.Sprint(left, why, prekeys.Right(l), prekeys.Like(l, shelves(3)))
			})
		}
	}
	var first []string
	for _, call := range calls {
		first = append(first, call())
	}
	for i := len(calls) - 1; i >= 0; i-- {
		want(t, fmt.Sprint("call ", i), calls[i](), first[i])
	}
}

// P1: of nothing at all.
func TestNothingAtAll(t *testing.T) {
	wantRight(t, "nothing", nil, true)
	wantPublish(t, "nothing", nil, api.Shelf{}, api.ErrArg)
	wantFetch(t, "nothing", nil, 0, api.ErrNone)
	wantMore(t, "nothing", nil, 0, nil, api.ErrNone)
	wantNoLeft(t, "nothing", nil, 0, api.ErrNone)
	wantLike(t, "nothing", nil, nil)
}

// fuzzPoints are few bytes as points: of few Ids, 0 among them, and of few sizes.
func fuzzPoints(s string) []api.Point {
	var out []api.Point
	for i := range min(len(s), mostOnce+4) {
		p := api.Point{Id: uint64(s[i] % 64), Point: key(int(s[i]))}
		if s[i] >= 250 {
			p.Point = strings.Repeat("x", 31+int(s[i])%3)
		}
		out = append(out, p)
	}
	return out
}

// fuzzShelves are few bytes as shelves: a byte of the user, one of how many points, and these.
func fuzzShelves(s string) []api.Shelf {
	var out []api.Shelf
	for len(s) > 1 && len(out) < mostUsers+2 {
		many := min(int(s[1])%24, len(s)-2)
		x := shelf(uint64(s[0]), 0)
		x.Once = fuzzPoints(s[2 : 2+many])
		out, s = append(out, x), s[2+many:]
	}
	return out
}

func FuzzAll(f *testing.F) {
	f.Add("", "", uint64(0), uint64(0), "")
	f.Add("\x01\x02ab\x02\x00\x03\x01a", "i", uint64(2), uint64(1), "abc")
	f.Add("\x01\x00\x02\x00\x03\x00\x04\x00\x05\x00\x06\x00\x07\x00\x08\x00", "", uint64(9), uint64(5), "a")
	f.Add("\x01\x00\x02\x00\x03\x00\x04\x00\x05\x00\x06\x00\x07\x00\x08\x00\x09\x00", "s", uint64(9), uint64(5), "aa")
	f.Add("\x05\x14abcdefghijklmnopqrst", "", uint64(5), uint64(5), "u")
	f.Add("\x05\x13abcdefghijklmnopqrs", "", uint64(5), uint64(5), "\xff")
	f.Add("\x05\x01\x40\x05\x01a", "", uint64(5), uint64(5), "\x00\x00")
	f.Fuzz(func(t *testing.T, bytes, other string, own, user uint64, new string) {
		l, once := fuzzShelves(bytes), fuzzPoints(new)
		s := changedShelf(shelf(own, 0), func(s *api.Shelf) { s.Once = once })
		if other != "" {
			s.Identity = key(len(other))
		}
		if prekeys.Right(l) != rightByTheWords(l) {
			t.Fatalf("%q: right or not", told(l))
		}
		for _, of := range []uint64{own, user} {
			fetch(t, l, of)
			more(t, l, of, once)
			left(t, l, of)
		}
		next, _ := publish(t, l, s)
		if prekeys.Like(l, next) != (told(l) == told(next)) {
			t.Fatalf("%q\n%q: like or not", told(l), told(next))
		}
		if !prekeys.Like(l, copied(l)) {
			t.Fatalf("%q: unlike itself", told(l))
		}
	})
}

func BenchmarkFetch(b *testing.B) {
	l := shelves(mostUsers)
	for range b.N {
		prekeys.Fetch(l, users()[3])
	}
}

package relay_test

import (
	"fmt"
	"math"
	"math/big"
	"math/rand"
	"slices"
	"strconv"
	"strings"
	"testing"

	"demurral/api"
	"demurral/relay"
)

const (
	mostBoxes = 8
	mostMails = 16
	mostBytes = 1400
	now       = 1000 // of the relays here, unless a test says otherwise
	next      = 900
	end       = 1 << 62
	top       = math.MaxUint64
)

func long(many int) string { return strings.Repeat("l", many) }

// turned is the text with one bit of it turned.
func turned(s string, bit int) string {
	b := []byte(s)
	b[bit/8] ^= 1 << (bit % 8)
	return string(b)
}

// mail is one of a row: their numbers rise with gaps, when they came does neither rise nor fall, and is from now to 50 ticks ahead of it; both edges of size are among them.
func mail(i int) api.Mail {
	m := api.Mail{Id: uint64(5*i + i*i%5), Bytes: fmt.Sprint("mail ", i), Born: now - uint64(i*37)%51}
	switch i {
	case 3:
		m.Bytes = ""
	case 7:
		m.Bytes = long(mostBytes)
	}
	return m
}

// mails are so many of the row.
func mails(first, many int) []api.Mail {
	var out []api.Mail
	for i := range many {
		out = append(out, mail(first+i))
	}
	return out
}

func box(user uint64, first, many int) api.Box { return api.Box{User: user, Mails: mails(first, many)} }

// users rise, with both ends among them, and numbers whose lowest bits, or whose order with a sign, say otherwise.
func users() []uint64 { return []uint64{0, 3, 1<<8 + 1, 1<<31 + 2, 1 << 32, 1<<63 - 1, 1 << 63, top} }

// strangers are users next to those, and elsewhere.
func strangers() []uint64 {
	return []uint64{1, 2, 4, 5, 1 << 8, 1<<31 + 1, 1<<31 + 3, 1<<32 - 1, 1<<32 + 3, 1<<63 - 2, 1<<63 + 3, top - 1}
}

// counts are of a box's mails: those next to all limits.
func counts() []int { return []int{16, 1, 5, 6, 2, 15, 4, 10} }

// of is a relay of such boxes.
func of(boxes ...api.Box) api.Relay { return api.Relay{Boxes: boxes, Now: now, Next: next} }

// relayOf has so many boxes, with other numbers of mails each; their numbers and bytes are in part the same.
func relayOf(many int) api.Relay {
	r := of()
	for i, u := range users()[:many] {
		r.Boxes = append(r.Boxes, box(u, 2*i, counts()[i]))
	}
	return r
}

// sized has one box of so many mails in the middle of three.
func sized(many int) api.Relay { return of(box(3, 4, 16), box(5, 0, many), box(9, 2, 15)) }

// copied is the relay as new memory.
func copied(r api.Relay) api.Relay {
	r.Boxes = slices.Clone(r.Boxes)
	for i := range r.Boxes {
		r.Boxes[i].Mails = slices.Clone(r.Boxes[i].Mails)
	}
	return r
}

// changed is the relay with something of it changed.
func changed(r api.Relay, change func(*api.Relay)) api.Relay {
	r = copied(r)
	change(&r)
	return r
}

func changedBox(r api.Relay, at int, change func(*api.Box)) api.Relay {
	return changed(r, func(r *api.Relay) { change(&r.Boxes[at]) })
}

func changedMail(r api.Relay, at, place int, change func(*api.Mail)) api.Relay {
	return changedBox(r, at, func(b *api.Box) { change(&b.Mails[place]) })
}

// at is a relay whose time is another one: all that came, came so much later or earlier, too.
func at(time uint64, r api.Relay) api.Relay {
	return changed(r, func(r *api.Relay) {
		for _, b := range r.Boxes {
			for i := range b.Mails {
				b.Mails[i].Born = time - (r.Now - b.Mails[i].Born)
			}
		}
		r.Now = time
	})
}

// aged is a box of mails that came so many ticks ago, each.
func aged(user uint64, ages ...uint64) api.Box {
	b := api.Box{User: user}
	for i, age := range ages {
		b.Mails = append(b.Mails, api.Mail{Id: uint64(3 * i), Bytes: strconv.Itoa(i), Born: now - age})
	}
	return b
}

// wrongMails change a mail to one that may not be in its place, each for one reason.
func wrongMails() map[string]func(*api.Mail) {
	return map[string]func(*api.Mail){
		"1401 bytes":         func(m *api.Mail) { m.Bytes = long(1401) },
		"2800 bytes":         func(m *api.Mail) { m.Bytes = long(2800) },
		"65536 bytes":        func(m *api.Mail) { m.Bytes = long(1 << 16) },
		"Born behind Now":    func(m *api.Mail) { m.Born = now + 1 },
		"Born far behind":    func(m *api.Mail) { m.Born = now + 1<<32 },
		"Born at the end":    func(m *api.Mail) { m.Born = top },
		"Born near the end":  func(m *api.Mail) { m.Born = top - 40 },
		"Born 51 ago":        func(m *api.Mail) { m.Born = now - 51 },
		"Born 52 ago":        func(m *api.Mail) { m.Born = now - 52 },
		"Born 306 ago":       func(m *api.Mail) { m.Born = now - 306 },
		"Born at 0":          func(m *api.Mail) { m.Born = 0 },
		"a number at Next":   func(m *api.Mail) { m.Id = next },
		"a number beyond it": func(m *api.Mail) { m.Id = next + 1 },
		"a number far off":   func(m *api.Mail) { m.Id = 1<<32 + next - 1 },
		"the last number":    func(m *api.Mail) { m.Id = top },
	}
}

// wrongBoxes are a user's that may not be, each for one reason.
func wrongBoxes(user uint64) map[string]api.Box {
	out := map[string]api.Box{"no mails": {User: user}, "a list of no mails": {User: user, Mails: []api.Mail{}}, "no mails, with others behind the end": {User: user, Mails: mails(0, 3)[:0]}}
	for _, many := range []int{17, 18, 32, 100} {
		out[fmt.Sprint(many, " mails")] = box(user, 10, many)
	}
	for _, many := range []int{1, 2, 5, mostMails} {
		for _, place := range []int{0, many / 2, many - 1} {
			for name, change := range wrongMails() {
				if strings.Contains(name, "number") && place < many-1 {
					continue // that would fall, too
				}
				out[fmt.Sprintf("%s at %d of %d", name, place, many)] = changedMail(of(box(user, 0, many)), 0, place, change).Boxes[0]
			}
		}
		for j := range many {
			for i := range j {
				out[fmt.Sprintf("the bytes of %d at %d of %d", i, j, many)] = changedMail(of(box(user, 0, many)), 0, j, func(m *api.Mail) { m.Bytes = mail(i).Bytes }).Boxes[0]
			}
			if j > 0 {
				same := changedMail(of(box(user, 0, many)), 0, j, func(m *api.Mail) { m.Id = mail(j - 1).Id })
				out[fmt.Sprintf("one number at %d and %d of %d", j-1, j, many)] = same.Boxes[0]
				fall := changedBox(of(box(user, 0, many)), 0, func(b *api.Box) { b.Mails[j].Id, b.Mails[j-1].Id = b.Mails[j-1].Id, b.Mails[j].Id })
				out[fmt.Sprintf("numbers fall at %d of %d", j, many)] = fall.Boxes[0]
			}
		}
	}
	return out
}

// wrongRelays may not be, each for one reason.
func wrongRelays() map[string]api.Relay {
	out := map[string]api.Relay{
		"a user twice":                 of(box(5, 0, 1), box(5, 1, 1)),
		"a user and its box twice":     of(box(5, 0, 1), box(5, 0, 1)),
		"a user twice, at 0":           of(box(0, 0, 1), box(0, 1, 1)),
		"a user twice, at the end":     of(box(top, 0, 1), box(top, 1, 1)),
		"users that fall":              of(box(2, 0, 1), box(1, 1, 1)),
		"users that fall from the end": of(box(top, 0, 1), box(0, 1, 1)),
		"users that rise with a sign":  of(box(1<<63, 0, 1), box(1, 1, 1)),
		"users that rise in 32 bits":   of(box(1<<32, 0, 1), box(3, 1, 1)),
		"the first one twice, apart":   of(box(1, 0, 1), box(2, 1, 1), box(1, 2, 1)),
		"boxes of nothing":             of(make([]api.Box, 2)...),
	}
	for _, many := range []int{9, 10, 16, 264, 1<<16 + 8} {
		r := of()
		for i := range many {
			r.Boxes = append(r.Boxes, box(uint64(i), 0, 1))
		}
		out[fmt.Sprint(many, " boxes")] = r
	}
	full := relayOf(mostBoxes)
	for i := range mostBoxes - 1 {
		out[fmt.Sprintf("user %d as %d", i, i+1)] = changedBox(full, i+1, func(b *api.Box) { b.User = users()[i] })
		out[fmt.Sprintf("users %d and %d fall", i, i+1)] = changed(full, func(r *api.Relay) { r.Boxes[i], r.Boxes[i+1] = r.Boxes[i+1], r.Boxes[i] })
	}
	for _, wrong := range []uint64{end, end + 1, end + now, 1 << 63, 1<<63 + now, top - 1, top} {
		out[fmt.Sprint("Now ", wrong)] = at(wrong, full)
		out[fmt.Sprint("Now without boxes ", wrong)] = api.Relay{Now: wrong}
		out[fmt.Sprint("Next ", wrong)] = changed(full, func(r *api.Relay) { r.Next = wrong })
		out[fmt.Sprint("Next without boxes ", wrong)] = api.Relay{Next: wrong}
	}
	for name, wrong := range wrongBoxes(3) {
		out[name] = of(wrong)
		out[name+", behind another one"] = of(box(1, 0, 1), wrong)
		out[name+", in front"] = of(wrong, box(1<<40, 0, 2))
	}
	return out
}

// edgeRelays may be, at one edge or several.
func edgeRelays() map[string]api.Relay {
	ids := func(ids ...uint64) api.Relay {
		r := api.Relay{Boxes: []api.Box{{User: 1}}, Next: end - 1}
		for i, id := range ids {
			r.Boxes[0].Mails = append(r.Boxes[0].Mails, api.Mail{Id: id, Bytes: strconv.Itoa(i)})
		}
		return r
	}
	out := map[string]api.Relay{
		"nothing":                     {},
		"a list of no boxes":          {Boxes: []api.Box{}},
		"user 0 alone":                of(box(0, 0, 3)),
		"the last user alone":         of(box(top, 0, 3)),
		"both ends":                   of(box(0, 0, 3), box(top, 0, 3)),
		"the last two":                of(box(top-1, 0, 3), box(top, 0, 3)),
		"the first two":               of(box(0, 0, 3), box(1, 0, 3)),
		"users as with a sign":        of(box(1, 0, 3), box(1<<63, 0, 3)),
		"no bytes":                    of(api.Box{User: 1, Mails: []api.Mail{{Born: now}}}),
		"bytes 0":                     of(api.Box{User: 1, Mails: []api.Mail{{Bytes: "\x00", Born: now}, {Id: 1, Bytes: "\x00\x00", Born: now}, {Id: 2, Born: now}}}),
		"1400 bytes":                  of(api.Box{User: 1, Mails: []api.Mail{{Bytes: long(1400), Born: now}}}),
		"1400 bytes but for one":      of(api.Box{User: 1, Mails: []api.Mail{{Bytes: long(1400), Born: now}, {Id: 1, Bytes: long(1399) + "x", Born: now}, {Id: 2, Bytes: "x" + long(1399), Born: now}}}),
		"one box for all":             of(box(1, 0, 16), box(2, 0, 16), box(3, 0, 16)),
		"numbers up to Next":          ids(0, 1, 2, 1<<32, 1<<32+1, end-3, end-2),
		"a number below Next":         {Boxes: []api.Box{{Mails: []api.Mail{{}}}}, Next: 1},
		"Now and Next at the end":     {Now: end - 1, Next: end - 1},
		"Now at 0, Next at the end":   {Next: end - 1},
		"Now at the end, Next at 0":   {Now: end - 1},
		"mails at the end":            changed(at(end-1, relayOf(mostBoxes)), func(r *api.Relay) { r.Next = end - 1 }),
		"mails that are 0 ticks old":  of(aged(1, 0, 0, 0)),
		"mails that are 50 ticks old": of(aged(1, 50, 50, 50)),
		"ages that rise and fall":     of(aged(1, 0, 50, 1, 49, 0), aged(2, 50, 0, 25, 50)),
		"Now and Born at 50 and 0":    {Boxes: []api.Box{{Mails: []api.Mail{{}}}}, Now: 50, Next: 1},
		"Now and Born at 0":           {Boxes: []api.Box{{Mails: []api.Mail{{}}}}, Next: 1},
		"the same bytes in two boxes": of(api.Box{User: 1, Mails: []api.Mail{{Id: 1, Bytes: "a", Born: now}}}, api.Box{User: 2, Mails: []api.Mail{{Id: 2, Bytes: "a", Born: now}}}),
		"one number in two boxes":     of(api.Box{User: 1, Mails: []api.Mail{{Id: 1, Bytes: "a", Born: now}}}, api.Box{User: 2, Mails: []api.Mail{{Id: 1, Bytes: "b", Born: now}}}),
		"numbers that fall by boxes":  of(box(1, 20, 3), box(2, 0, 3)),
	}
	for many := range mostBoxes + 1 {
		out[fmt.Sprint(many, " boxes")] = relayOf(many)
		out[fmt.Sprint(many, " boxes, with others behind the end")] = changed(relayOf(many), func(r *api.Relay) { r.Boxes = append(r.Boxes, api.Box{})[:many] })
	}
	for many := 1; many <= mostMails; many++ {
		out[fmt.Sprint(many, " mails")] = sized(many)
		out[fmt.Sprint(many, " mails, with others behind the end")] = of(api.Box{User: 1, Mails: append(mails(0, many), api.Mail{Born: top})[:many]})
	}
	return out
}

// What follows, up to tickByTheWords, is the chapter's words.
func rightByTheWords(r api.Relay) bool {
	if len(r.Boxes) > 8 || r.Now>>62 > 0 || r.Next>>62 > 0 {
		return false
	}
	for i, b := range r.Boxes {
		for _, before := range r.Boxes[:i] {
			if before.User >= b.User {
				return false
			}
		}
		if len(b.Mails) < 1 || len(b.Mails) > 16 {
			return false
		}
		for j, m := range b.Mails {
			for _, before := range b.Mails[:j] {
				if before.Id >= m.Id || before.Bytes == m.Bytes {
					return false
				}
			}
			if m.Id >= r.Next || len(m.Bytes) > 1400 || m.Born > r.Now || m.Born+50 < r.Now {
				return false
			}
		}
	}
	return true
}

// there is the place of a user's box, or -1.
func there(r api.Relay, user uint64) int {
	for i := len(r.Boxes) - 1; i >= 0; i-- {
		if r.Boxes[i].User == user {
			return i
		}
	}
	return -1
}

func pushByTheWords(r api.Relay, user uint64, bytes string) (api.Relay, api.Errno) {
	if !rightByTheWords(r) {
		return api.Relay{}, 1
	}
	own := there(r, user)
	if len(bytes) > 1400 {
		return api.Relay{}, 2
	}
	if own >= 0 {
		for _, m := range r.Boxes[own].Mails {
			if m.Bytes == bytes {
				return api.Relay{}, 7
			}
		}
	}
	if own >= 0 && len(r.Boxes[own].Mails) == 16 || own < 0 && len(r.Boxes) == 8 {
		return api.Relay{}, 6
	}
	if r.Next == 1<<62-1 {
		return api.Relay{}, 1
	}
	out := copied(r)
	if own < 0 {
		out.Boxes = append(out.Boxes, api.Box{User: user})
		slices.SortFunc(out.Boxes, func(a, b api.Box) int {
			if a.User < b.User {
				return -1
			}
			return 1
		})
		own = there(out, user)
	}
	out.Boxes[own].Mails = append(out.Boxes[own].Mails, api.Mail{Id: r.Next, Bytes: bytes, Born: r.Now})
	out.Next = r.Next + 1
	return out, 0
}

func pullByTheWords(r api.Relay, user uint64) ([]api.Mail, api.Errno) {
	if !rightByTheWords(r) {
		return nil, 1
	}
	own := there(r, user)
	if own < 0 {
		return nil, 5
	}
	var out []api.Mail
	for i, m := range r.Boxes[own].Mails {
		if i < 5 {
			out = append(out, m)
		}
	}
	return out, 0
}

// without is the relay without some mails, and without boxes that are empty then, and how many mails went.
func without(r api.Relay, goes func(user uint64, m api.Mail) bool) (api.Relay, int) {
	out, gone := r, 0
	out.Boxes = nil
	for _, b := range r.Boxes {
		left := api.Box{User: b.User}
		for _, m := range b.Mails {
			if goes(b.User, m) {
				gone++
			} else {
				left.Mails = append(left.Mails, m)
			}
		}
		if len(left.Mails) > 0 {
			out.Boxes = append(out.Boxes, left)
		}
	}
	return out, gone
}

func ackByTheWords(r api.Relay, user, id uint64) (api.Relay, api.Errno) {
	if !rightByTheWords(r) {
		return api.Relay{}, 1
	}
	out, gone := without(r, func(u uint64, m api.Mail) bool { return u == user && m.Id == id })
	if gone == 0 {
		return api.Relay{}, 5
	}
	return out, 0
}

func tickByTheWords(r api.Relay, ticks uint64) (api.Relay, api.Errno) {
	if !rightByTheWords(r) {
		return api.Relay{}, 1
	}
	later := new(big.Int).SetUint64(r.Now)
	later.Add(later, new(big.Int).SetUint64(ticks))
	if ticks > 1000 || later.BitLen() > 62 {
		return api.Relay{}, 2
	}
	out, _ := without(r, func(_ uint64, m api.Mail) bool { return later.Uint64()-m.Born > 50 })
	out.Now = later.Uint64()
	return out, 0
}

// What follows tells things as they are, and how long texts are, too, so that no two things are told as one. It goes by append, since tests tell a lot of them.
func appendMails(b []byte, l []api.Mail) []byte {
	b = append(strconv.AppendInt(b, int64(len(l)), 10), " mails"...)
	for _, m := range l {
		b = strconv.AppendUint(append(b, ' '), m.Id, 10)
		b = strconv.AppendUint(append(b, '@'), m.Born, 10)
		b = strconv.AppendInt(append(b, ' '), int64(len(m.Bytes)), 10)
		b = append(append(b, ':'), m.Bytes...)
	}
	return b
}

func appendBox(b []byte, x api.Box) []byte {
	return appendMails(append(strconv.AppendUint(append(b, " user "...), x.User, 10), ' '), x.Mails)
}

// told tells a list of none as no list is told.
func told(r api.Relay) string {
	b := strconv.AppendUint(append(make([]byte, 0, 4096), "now "...), r.Now, 10)
	b = strconv.AppendUint(append(b, " next "...), r.Next, 10)
	b = strconv.AppendInt(append(b, ' '), int64(len(r.Boxes)), 10)
	for _, x := range r.Boxes {
		b = appendBox(b, x)
	}
	return string(b)
}

func toldMails(l []api.Mail) string { return string(appendMails(nil, l)) }

// toldWhole is all of the relay, and what stands in the room behind the ends of all lists; of a great many, it is the first ones.
func toldWhole(r api.Relay) string {
	many := len(r.Boxes)
	r.Boxes = slices.Clone(r.Boxes[:min(cap(r.Boxes), 100)])
	b := strconv.AppendInt(nil, int64(many), 10)
	for i, x := range r.Boxes {
		b = strconv.AppendInt(append(b, " of "...), int64(len(x.Mails)), 10)
		r.Boxes[i].Mails = x.Mails[:min(cap(x.Mails), 200)]
	}
	return string(b) + told(r)
}

func want(t *testing.T, what, got, wanted string) {
	t.Helper()
	if got != wanted {
		t.Errorf("%s: %.2000q\nwanted %.2000q", what, got, wanted)
	}
}

func wantErr(t *testing.T, what string, got, wanted api.Errno) {
	t.Helper()
	if got != wanted {
		t.Errorf("%s: error %d; wanted error %d", what, got, wanted)
	}
}

// held asks that a call told what the words say, nothing beside an error, and a relay that may be else; and that the relay that was handed in stays.
func held(t *testing.T, what string, r api.Relay, before string, out, wanted api.Relay, why, wantedWhy api.Errno) {
	t.Helper()
	wantErr(t, what, why, wantedWhy)
	want(t, what, told(out), told(wanted))
	want(t, what+": the relay that was handed in", toldWhole(r), before)
	if why == api.OK && !relay.Right(out) {
		t.Errorf("%s: a relay that may not be: %.2000q", what, told(out))
	}
}

func push(t *testing.T, r api.Relay, user uint64, bytes string) (api.Relay, api.Errno) {
	t.Helper()
	before := toldWhole(r)
	wanted, wantedWhy := pushByTheWords(r, user, bytes)
	out, why := relay.Push(r, user, bytes)
	held(t, "Push", r, before, out, wanted, why, wantedWhy)
	return out, why
}

func pull(t *testing.T, r api.Relay, user uint64) ([]api.Mail, api.Errno) {
	t.Helper()
	before := toldWhole(r)
	wanted, wantedWhy := pullByTheWords(r, user)
	out, why := relay.Pull(r, user)
	wantErr(t, "Pull", why, wantedWhy)
	want(t, "Pull", toldMails(out), toldMails(wanted))
	want(t, "Pull: the relay that was handed in", toldWhole(r), before)
	return out, why
}

func ack(t *testing.T, r api.Relay, user, id uint64) (api.Relay, api.Errno) {
	t.Helper()
	before := toldWhole(r)
	wanted, wantedWhy := ackByTheWords(r, user, id)
	out, why := relay.Ack(r, user, id)
	held(t, "Ack", r, before, out, wanted, why, wantedWhy)
	return out, why
}

func tick(t *testing.T, r api.Relay, ticks uint64) (api.Relay, api.Errno) {
	t.Helper()
	before := toldWhole(r)
	wanted, wantedWhy := tickByTheWords(r, ticks)
	out, why := relay.Tick(r, ticks)
	held(t, "Tick", r, before, out, wanted, why, wantedWhy)
	return out, why
}

// wantPush, wantPull, wantAck and wantTick ask for an error, too (or OK), beside what the words say.
func wantPush(t *testing.T, what string, r api.Relay, user uint64, bytes string, wanted api.Errno) api.Relay {
	t.Helper()
	out, why := push(t, r, user, bytes)
	wantErr(t, "Push, "+what, why, wanted)
	return out
}

func wantPull(t *testing.T, what string, r api.Relay, user uint64, wanted api.Errno) []api.Mail {
	t.Helper()
	out, why := pull(t, r, user)
	wantErr(t, "Pull, "+what, why, wanted)
	return out
}

func wantAck(t *testing.T, what string, r api.Relay, user, id uint64, wanted api.Errno) api.Relay {
	t.Helper()
	out, why := ack(t, r, user, id)
	wantErr(t, "Ack, "+what, why, wanted)
	return out
}

func wantTick(t *testing.T, what string, r api.Relay, ticks uint64, wanted api.Errno) api.Relay {
	t.Helper()
	out, why := tick(t, r, ticks)
	wantErr(t, "Tick, "+what, why, wanted)
	return out
}

func wantRight(t *testing.T, what string, r api.Relay, wanted bool) {
	t.Helper()
	if got := relay.Right(r); got != wanted || rightByTheWords(r) != wanted {
		t.Errorf("Right, %s: %v; wanted %v", what, got, wanted)
	}
}

// The chapter's example: a and b pushed, a acknowledged; b pulled.
func TestTheChaptersExample(t *testing.T) {
	r := wantPush(t, "a", api.Relay{}, 3, "a", api.OK)
	r = wantPush(t, "b", r, 3, "b", api.OK)
	l := wantPull(t, "both", r, 3, api.OK)
	if !slices.Equal(l, []api.Mail{{Id: 0, Bytes: "a"}, {Id: 1, Bytes: "b"}}) {
		t.Errorf("both: %q", toldMails(l))
	}
	r = wantAck(t, "a", r, 3, 0, api.OK)
	l = wantPull(t, "b", r, 3, api.OK)
	if !slices.Equal(l, []api.Mail{{Id: 1, Bytes: "b"}}) {
		t.Errorf("b: %q", toldMails(l))
	}
}

// P16.1: at each edge.
func TestRightRelays(t *testing.T) {
	for name, r := range edgeRelays() {
		wantRight(t, name, r, true)
	}
}

// P16.1: each for one reason.
func TestWrongRelays(t *testing.T) {
	for name, r := range wrongRelays() {
		wantRight(t, name, r, false)
	}
}

// P16.1: in each box of 8, and with each user in the place of each.
func TestWrongInEachBox(t *testing.T) {
	r := relayOf(mostBoxes)
	for i, u := range users() {
		for name, wrong := range wrongBoxes(u) {
			wantRight(t, fmt.Sprint(name, " in box ", i), changedBox(r, i, func(b *api.Box) { *b = wrong }), false)
		}
		for j, other := range users() {
			wantRight(t, fmt.Sprintf("user of %d in box %d", j, i), changedBox(r, i, func(b *api.Box) { b.User = other }), i == j)
		}
	}
}

// P16.1: each wrong mail in each place of a full box; numbers, bytes and times next to those that are wrong.
func TestWrongInEachPlace(t *testing.T) {
	r := sized(mostMails)
	for place := range mostMails {
		for name, change := range wrongMails() {
			wantRight(t, fmt.Sprint(name, " at ", place), changedMail(r, 1, place, change), false)
		}
		for age := range uint64(60) {
			wantRight(t, fmt.Sprintf("%d ticks old at %d", age, place), changedMail(r, 1, place, func(m *api.Mail) { m.Born = now - age }), age <= 50)
		}
		for _, many := range []int{0, 8, 9, 1399, 1400, 1401, 1402} {
			change := func(m *api.Mail) { m.Bytes = strings.Repeat("n", many) }
			wantRight(t, fmt.Sprintf("%d bytes at %d", many, place), changedMail(r, 1, place, change), many <= 1400 && (many > 0 || place == 3))
		}
		low, high := uint64(0), uint64(next-1)
		if place > 0 {
			low = mail(place-1).Id + 1
		}
		if place < mostMails-1 {
			high = mail(place+1).Id - 1
		}
		for _, id := range []uint64{low - 1, low, high, high + 1} {
			is := id >= low && id <= high
			wantRight(t, fmt.Sprintf("number %d at %d", id, place), changedMail(r, 1, place, func(m *api.Mail) { m.Id = id }), is)
		}
	}
}

// P16.1: near the beginning of time no mail is too old, and one that would come at the end of all numbers is not from just ahead of it.
func TestRightNearTheBeginning(t *testing.T) {
	for early := range uint64(60) {
		for _, born := range []uint64{0, 1, early - 51, early - 50, early - 1, early, early + 1, 49, 50, end, 1 << 63, top - 49, top - 1, top} {
			is := born <= early && early <= born+50
			r := changed(of(box(1, 0, 1)), func(r *api.Relay) { r.Now, r.Boxes[0].Mails[0].Born = early, born })
			wantRight(t, fmt.Sprintf("Now %d, Born %d", early, born), r, is)
			wanted := api.OK
			if !is {
				wanted = api.ErrArg
			}
			wantPush(t, "near the beginning", r, 1, "new", wanted)
			wantTick(t, "near the beginning", r, 30, wanted)
		}
	}
}

// P16.1: Now and Next around 2^62, and Next around the last number.
func TestRightNowAndNext(t *testing.T) {
	for _, r := range []api.Relay{of(), relayOf(1), relayOf(mostBoxes)} {
		for _, n := range []uint64{end - 60, end - 2, end - 1, end, end + 1, 1 << 63, top} {
			wantRight(t, fmt.Sprint("Now ", n), at(n, r), n < end)
			wantRight(t, fmt.Sprint("Next ", n), changed(r, func(r *api.Relay) { r.Next = n }), n < end)
		}
	}
	for many := 1; many <= mostMails; many++ {
		last := mail(many - 1).Id
		for _, n := range []uint64{last - 1, last, last + 1, last + 2} {
			wantRight(t, fmt.Sprint("Next ", n), changed(of(box(1, 0, many)), func(r *api.Relay) { r.Next = n }), n > last && n < end)
		}
	}
}

func wantLike(t *testing.T, what string, a, b api.Relay) {
	t.Helper()
	if !relay.Like(a, b) || !relay.Like(b, a) {
		t.Errorf("%s: unlike", what)
	}
}

func wantUnlike(t *testing.T, what string, a, b api.Relay) {
	t.Helper()
	if relay.Like(a, b) || relay.Like(b, a) {
		t.Errorf("%s: like", what)
	}
}

// P16.1: relays that may be, and such that may not; no list is as an empty one; what is behind an end is not of account.
func TestLike(t *testing.T) {
	wantLike(t, "nothing", api.Relay{}, api.Relay{})
	wantLike(t, "no list, and an empty one", api.Relay{}, api.Relay{Boxes: []api.Box{}})
	wantLike(t, "no list of mails, and an empty one", of(api.Box{User: 1}), of(api.Box{User: 1, Mails: []api.Mail{}}))
	wantLike(t, "no mails, with others behind the end", of(api.Box{User: 1}), of(api.Box{User: 1, Mails: mails(0, 3)[:0]}))
	wantUnlike(t, "no boxes, and one of nothing", of(), of(api.Box{}))
	wantUnlike(t, "no mails, and one of nothing", of(api.Box{}), of(api.Box{Mails: make([]api.Mail, 1)}))
	for many := range mostBoxes + 1 {
		r := relayOf(many)
		wantLike(t, "one relay", r, r)
		wantLike(t, "one told twice", r, relayOf(many))
		wantLike(t, "one with others behind the end", r, changed(r, func(r *api.Relay) { r.Boxes = append(r.Boxes, box(1, 0, 1))[:many] }))
		wantUnlike(t, "a box more at the end", r, changed(r, func(r *api.Relay) { r.Boxes = append(r.Boxes, box(1, 0, 1)) }))
		wantUnlike(t, "a box more at the beginning", r, changed(r, func(r *api.Relay) { r.Boxes = slices.Insert(r.Boxes, 0, box(1, 0, 1)) }))
		for i := range many {
			wantUnlike(t, "a box less", r, changed(r, func(r *api.Relay) { r.Boxes = slices.Delete(r.Boxes, i, i+1) }))
			wantUnlike(t, "a box twice", r, changed(r, func(r *api.Relay) { r.Boxes = slices.Insert(r.Boxes, i, r.Boxes[i]) }))
			for j := range i {
				wantUnlike(t, "another order", r, changed(r, func(r *api.Relay) { r.Boxes[i], r.Boxes[j] = r.Boxes[j], r.Boxes[i] }))
			}
		}
	}
	for name, r := range wrongRelays() {
		wantLike(t, name, r, copied(r))
	}
	for name, r := range edgeRelays() {
		wantLike(t, name, r, copied(r))
	}
}

// P16.1: relays that differ in one thing each: every bit of each number, and all of each box and mail.
func TestLikeLooksAtAll(t *testing.T) {
	for _, many := range []int{0, 1, mostBoxes} {
		r := relayOf(many)
		for bit := range 64 {
			wantUnlike(t, "a bit of Now", r, changed(r, func(r *api.Relay) { r.Now ^= 1 << bit }))
			wantUnlike(t, "a bit of Next", r, changed(r, func(r *api.Relay) { r.Next ^= 1 << bit }))
		}
		wantUnlike(t, "Now for Next", r, changed(r, func(r *api.Relay) { r.Now, r.Next = r.Next, r.Now }))
		for i := range many {
			for bit := range 64 {
				wantUnlike(t, "a bit of a user", r, changedBox(r, i, func(b *api.Box) { b.User ^= 1 << bit }))
			}
			wantUnlike(t, "a mail more", r, changedBox(r, i, func(b *api.Box) { b.Mails = append(b.Mails, mail(99)) }))
			wantUnlike(t, "a mail of nothing more", r, changedBox(r, i, func(b *api.Box) { b.Mails = append(b.Mails, api.Mail{}) }))
			wantUnlike(t, "no mails", r, changedBox(r, i, func(b *api.Box) { b.Mails = nil }))
			for j := range r.Boxes[i].Mails {
				likeLooksAtMail(t, r, i, j)
			}
		}
	}
}

func likeLooksAtMail(t *testing.T, r api.Relay, i, j int) {
	t.Helper()
	for bit := range 64 {
		wantUnlike(t, "a bit of a number", r, changedMail(r, i, j, func(m *api.Mail) { m.Id ^= 1 << bit }))
		wantUnlike(t, "a bit of Born", r, changedMail(r, i, j, func(m *api.Mail) { m.Born ^= 1 << bit }))
	}
	bytes := r.Boxes[i].Mails[j].Bytes
	for bit := 0; bit < 8*len(bytes); bit += 1 + len(bytes)/10 {
		wantUnlike(t, "a bit of the bytes", r, changedMail(r, i, j, func(m *api.Mail) { m.Bytes = turned(bytes, bit) }))
	}
	wantUnlike(t, "a byte more", r, changedMail(r, i, j, func(m *api.Mail) { m.Bytes += "\x00" }))
	wantUnlike(t, "a mail less", r, changedBox(r, i, func(b *api.Box) { b.Mails = slices.Delete(b.Mails, j, j+1) }))
	wantUnlike(t, "a mail twice", r, changedBox(r, i, func(b *api.Box) { b.Mails = slices.Insert(b.Mails, j, b.Mails[j]) }))
	if j > 0 {
		wantUnlike(t, "another order", r, changedBox(r, i, func(b *api.Box) { b.Mails[0], b.Mails[j] = b.Mails[j], b.Mails[0] }))
	}
}

// P16.1: a relay that may not be, ahead of all else.
func TestWrongRelaysAreRefused(t *testing.T) {
	for name, r := range wrongRelays() {
		asked := []uint64{0, 3, 77, top}
		if len(r.Boxes) > 0 {
			asked = append(asked, r.Boxes[len(r.Boxes)-1].User)
		}
		for _, user := range asked {
			for _, bytes := range []string{"", "new", mail(1).Bytes, long(1400), long(1401)} {
				wantPush(t, name, r, user, bytes, api.ErrArg)
			}
			wantPull(t, name, r, user, api.ErrArg)
			for _, id := range []uint64{0, mail(1).Id, next, top} {
				wantAck(t, name, r, user, id, api.ErrArg)
			}
		}
		for _, ticks := range []uint64{0, 1, 51, 1000, 1001, top - r.Now, top - r.Now + 1, top} {
			wantTick(t, name, r, ticks, api.ErrArg)
		}
	}
}

// pushed is the relay with a mail more at the end of a box, made by hand.
func pushed(r api.Relay, at int, bytes string) api.Relay {
	return changed(r, func(r *api.Relay) {
		r.Boxes[at].Mails = append(r.Boxes[at].Mails, api.Mail{Id: r.Next, Bytes: bytes, Born: r.Now})
		r.Next++
	})
}

// sizes are of bytes that may be.
func sizes() []int { return []int{0, 1, 2, 255, 256, 1024, 1399, 1400} }

// P16.2: into no box: its number is Next, it came Now.
func TestPushIntoNone(t *testing.T) {
	for _, boxes := range [][]api.Box{nil, {}, relayOf(3).Boxes[:0]} {
		for _, user := range append(users(), strangers()...) {
			for _, many := range sizes() {
				for _, n := range []uint64{0, 1, 77, 1 << 32, end - 2} {
					r := api.Relay{Boxes: boxes, Now: n + 1, Next: n}
					out := wantPush(t, "into none", r, user, long(many), api.OK)
					wanted := api.Relay{Boxes: []api.Box{{User: user, Mails: []api.Mail{{Id: n, Bytes: long(many), Born: n + 1}}}}, Now: n + 1, Next: n + 1}
					want(t, "one alone", told(out), told(wanted))
				}
			}
		}
	}
}

// P16.2: of a user that has none, in front of, between and behind those that are there.
func TestPushNewBox(t *testing.T) {
	full := relayOf(mostBoxes)
	for i, user := range users() {
		r := changed(full, func(r *api.Relay) { r.Boxes = slices.Delete(r.Boxes, i, i+1) })
		for _, bytes := range []string{"", "new", mail(9).Bytes, long(1400)} {
			out := wantPush(t, fmt.Sprint("as the box at ", i), r, user, bytes, api.OK)
			wanted := changed(full, func(r *api.Relay) {
				r.Boxes[i].Mails, r.Next = []api.Mail{{Id: next, Bytes: bytes, Born: now}}, next+1
			})
			want(t, fmt.Sprint("the box at ", i), told(out), told(wanted))
			for fewer := range mostBoxes {
				wantPush(t, "with fewer", of(r.Boxes[:fewer]...), user, bytes, api.OK)
				wantPush(t, "with the last ones", of(r.Boxes[7-fewer:]...), user, bytes, api.OK)
			}
		}
	}
	for many := range mostBoxes {
		for _, user := range strangers() {
			out := wantPush(t, "next to others", relayOf(many), user, "new", api.OK)
			if own := there(out, user); len(out.Boxes) != many+1 || own < 0 || len(out.Boxes[own].Mails) != 1 {
				t.Errorf("next to others: %q", told(out))
			}
		}
	}
}

// P16.2: in any order, boxes stand as their users rise.
func TestPushInAnyOrder(t *testing.T) {
	for seed := range int64(30) {
		r := api.Relay{}
		for _, i := range rand.New(rand.NewSource(seed)).Perm(mostBoxes) {
			r = wantPush(t, "one more", r, users()[i], "one", api.OK)
		}
		for i, b := range r.Boxes {
			if b.User != users()[i] {
				t.Errorf("box %d: user %d", i, b.User)
			}
		}
	}
}

// P16.2: behind the mails of the user's own box, of each size.
func TestPushBehindOwnMails(t *testing.T) {
	for many := range mostBoxes + 1 {
		r := relayOf(many)
		for i, user := range users()[:many] {
			for _, size := range sizes() {
				bytes := strings.Repeat("p", size)
				if len(r.Boxes[i].Mails) == mostMails || size == 0 && slices.ContainsFunc(r.Boxes[i].Mails, func(m api.Mail) bool { return m.Bytes == "" }) {
					continue
				}
				out := wantPush(t, "at the end", r, user, bytes, api.OK)
				want(t, "at the end", told(out), told(pushed(r, i, bytes)))
			}
		}
	}
	for many := 1; many < mostMails; many++ {
		out := wantPush(t, fmt.Sprint("behind ", many), sized(many), 5, "new", api.OK)
		want(t, fmt.Sprint("behind ", many), told(out), told(pushed(sized(many), 1, "new")))
	}
}

// P16.2: too many bytes, wherever they should go.
func TestPushSize(t *testing.T) {
	for _, r := range []api.Relay{{}, relayOf(1), relayOf(7), relayOf(mostBoxes), {Next: end - 1}} {
		for _, user := range append(users(), strangers()...) {
			for _, many := range []int{1401, 1402, 2800, 1 << 16, 1<<16 + 5} {
				wantPush(t, fmt.Sprint(many, " bytes"), r, user, long(many), api.ErrSize)
			}
		}
	}
}

// P16.2: bytes that the user's box has, at each place; those that are almost the same are new.
func TestPushOld(t *testing.T) {
	for many := 1; many <= mostMails; many++ {
		r := sized(many)
		for place := range many {
			is := mail(place).Bytes
			wantPush(t, fmt.Sprintf("the bytes at %d of %d", place, many), r, 5, is, api.ErrOld)
			if many < mostMails && len(is) < mostBytes {
				wantPush(t, "a byte more", r, 5, is+"\x00", api.OK)
			}
			if many < mostMails && len(is) > 0 {
				wantPush(t, "a byte less", r, 5, is[1:], api.OK)
				wantPush(t, "a bit beside", r, 5, turned(is, 8*len(is)-1), api.OK)
			}
		}
	}
}

// P16.2: bytes that only another's box has, in front of the user's, or behind it, or that the user's had.
func TestPushBytesOfAnother(t *testing.T) {
	r := of(box(3, 20, 16), box(5, 0, 3), box(9, 40, 15))
	for _, m := range slices.Concat(r.Boxes[0].Mails, r.Boxes[2].Mails) {
		out := wantPush(t, "into a box", r, 5, m.Bytes, api.OK)
		want(t, "into a box", told(out), told(pushed(r, 1, m.Bytes)))
		for _, user := range []uint64{0, 4, 6, top} {
			wantPush(t, "into none", r, user, m.Bytes, api.OK)
		}
		wantPush(t, "when the own has them", out, 5, m.Bytes, api.ErrOld)
	}
	for _, m := range r.Boxes[1].Mails {
		out := wantAck(t, "an own one", r, 5, m.Id, api.OK)
		out = wantPush(t, "what was acknowledged", out, 5, m.Bytes, api.OK)
		want(t, "at the end", toldMails(out.Boxes[1].Mails[2:]), toldMails([]api.Mail{{Id: next, Bytes: m.Bytes, Born: now}}))
	}
}

// P16.2: a box of 15 has room for one, one of 16 has none; beside 7 boxes there is room for one, beside 8 there is none but in those.
func TestPushFull(t *testing.T) {
	r := wantPush(t, "into 15", sized(15), 5, "new", api.OK)
	for _, full := range []api.Relay{r, sized(16), of(box(5, 0, 16)), relayOf(1)} {
		user := full.Boxes[len(full.Boxes)/2].User
		for _, bytes := range []string{"more", "x", long(1399), strings.Repeat("m", 1400)} {
			wantPush(t, "into 16", full, user, bytes, api.ErrFull)
			wantPush(t, "into another's", full, 7, bytes, api.OK)
		}
	}
	eight := relayOf(mostBoxes)
	for i, user := range users() {
		seven := changed(eight, func(r *api.Relay) { r.Boxes = slices.Delete(r.Boxes, i, i+1) })
		for _, other := range strangers() {
			for _, bytes := range []string{"", "new", mail(9).Bytes, long(1400)} {
				wantPush(t, "beside 8", eight, other, bytes, api.ErrFull)
				wantPush(t, "beside 7", seven, other, bytes, api.OK)
			}
		}
		wanted := api.OK
		if counts()[i] == mostMails {
			wanted = api.ErrFull
		}
		wantPush(t, "into one of 8", eight, user, "new", wanted)
	}
}

// P16.2: with Next at 2^62 - 2 there is a number still, at 2^62 - 1 there is none.
func TestPushLastNumber(t *testing.T) {
	for _, many := range []int{0, 2, 6} {
		r := changed(relayOf(many), func(r *api.Relay) { r.Next = end - 2 })
		for _, user := range []uint64{3, 5, top} {
			out := wantPush(t, "the last number", r, user, "new", api.OK)
			own := out.Boxes[there(out, user)].Mails
			if own[len(own)-1] != (api.Mail{Id: end - 2, Bytes: "new", Born: now}) || out.Next != end-1 {
				t.Errorf("the last number: %q", told(out))
			}
			for _, other := range []uint64{3, 5, 77, top} {
				wantPush(t, "no number", out, other, "more", api.ErrArg)
			}
			for _, m := range wantPull(t, "no number", out, user, api.OK) {
				wantAck(t, "no number", out, user, m.Id, api.OK)
			}
			wantTick(t, "no number", out, 51, api.OK)
		}
	}
}

// P16.2: where several errors hold at once, the one that the chapter lists first: a relay that may not be, too many bytes, bytes that are there, no room, no number.
func TestPushErrorsInOrder(t *testing.T) {
	for set := range 1 << 5 {
		has := func(fault int) bool { return set>>fault&1 == 1 }
		r, bytes, wanted := of(box(3, 4, 2), box(5, 0, 15)), "new", api.OK
		if has(4) {
			r.Next, wanted = end-1, api.ErrArg
		}
		if has(3) {
			r.Boxes[1], wanted = box(5, 0, 16), api.ErrFull
		}
		if has(2) {
			bytes, wanted = mail(14).Bytes, api.ErrOld
		}
		if has(1) {
			bytes, wanted = long(1401), api.ErrSize
		}
		if has(0) {
			r.Boxes[0].Mails[0].Born, wanted = now+1, api.ErrArg
		}
		wantPush(t, fmt.Sprintf("faults %05b", set), r, 5, bytes, wanted)
	}
	for set := range 1 << 4 { // a new user, beside 8; that one has no bytes
		has := func(fault int) bool { return set>>fault&1 == 1 }
		r, bytes, wanted := relayOf(7), mail(9).Bytes, api.OK
		if has(3) {
			r.Next, wanted = end-1, api.ErrArg
		}
		if has(2) {
			r, wanted = api.Relay{Boxes: relayOf(8).Boxes, Now: r.Now, Next: r.Next}, api.ErrFull
		}
		if has(1) {
			bytes, wanted = long(1401), api.ErrSize
		}
		if has(0) {
			r.Boxes[6].Mails, wanted = nil, api.ErrArg
		}
		wantPush(t, fmt.Sprintf("of a new user, faults %04b", set), r, 77, bytes, wanted)
	}
	r := of(api.Box{User: 5, Mails: []api.Mail{{Bytes: long(1401), Born: now}}})
	wantPush(t, "1401 bytes that are there", r, 5, long(1401), api.ErrArg)
}

// P16.3: of each number of mails: the first 5, or all.
func TestPull(t *testing.T) {
	for many := 1; many <= mostMails; many++ {
		l := wantPull(t, fmt.Sprint("of ", many), sized(many), 5, api.OK)
		want(t, fmt.Sprint("of ", many), toldMails(l), toldMails(mails(0, min(many, 5))))
		l = wantPull(t, fmt.Sprint("of another's ", many), sized(many), 3, api.OK)
		want(t, fmt.Sprint("of another's ", many), toldMails(l), toldMails(mails(4, 5)))
	}
	for many := range mostBoxes + 1 {
		for i, user := range users()[:many] {
			l := wantPull(t, "of each", relayOf(many), user, api.OK)
			want(t, "of each", toldMails(l), toldMails(mails(2*i, min(counts()[i], 5))))
		}
	}
}

// P16.3: of a user that has no mails, and of no boxes.
func TestPullNone(t *testing.T) {
	for many := range mostBoxes + 1 {
		for _, user := range append(strangers(), users()[many:]...) {
			wantPull(t, "of none", relayOf(many), user, api.ErrNone)
		}
		for _, x := range relayOf(many).Boxes {
			for bit := range 64 {
				if user := x.User ^ 1<<bit; there(relayOf(many), user) < 0 {
					wantPull(t, "a bit beside", relayOf(many), user, api.ErrNone)
					wantAck(t, "a bit beside", relayOf(many), user, x.Mails[0].Id, api.ErrNone)
				}
			}
		}
	}
	for _, r := range []api.Relay{{}, {Boxes: []api.Box{}}, {Boxes: relayOf(2).Boxes[:0], Now: end - 1, Next: end - 1}} {
		for _, user := range users() {
			wantPull(t, "of no boxes", r, user, api.ErrNone)
			wantAck(t, "of no boxes", r, user, 0, api.ErrNone)
		}
	}
}

// P16.3: each number of each box: the first, the middle ones, the last, and the only one, with which the box goes.
func TestAck(t *testing.T) {
	for many := 1; many <= mostMails; many++ {
		r := sized(many)
		for place := range many {
			out := wantAck(t, fmt.Sprintf("%d of %d", place, many), r, 5, mail(place).Id, api.OK)
			wanted := changed(r, func(r *api.Relay) {
				r.Boxes[1].Mails = slices.Delete(r.Boxes[1].Mails, place, place+1)
				if many == 1 {
					r.Boxes = slices.Delete(r.Boxes, 1, 2)
				}
			})
			want(t, fmt.Sprintf("%d of %d", place, many), told(out), told(wanted))
			wantAck(t, "again", out, 5, mail(place).Id, api.ErrNone)
		}
	}
	for many := range mostBoxes + 1 {
		r := relayOf(many)
		for i, b := range r.Boxes {
			for _, m := range b.Mails {
				wantAck(t, "of each", r, b.User, m.Id, api.OK)
			}
			only := changedBox(r, i, func(b *api.Box) { b.Mails = b.Mails[:1] })
			out := wantAck(t, "the only one", only, b.User, b.Mails[0].Id, api.OK)
			wanted := changed(r, func(r *api.Relay) { r.Boxes = slices.Delete(r.Boxes, i, i+1) })
			want(t, "the only one", told(out), told(wanted))
		}
	}
}

// P16.3: a number that the user's box has not: next to those that it has, one that another's has, Next, and ends.
func TestAckNone(t *testing.T) {
	r := of(box(3, 20, 16), box(5, 0, 16), box(9, 40, 15))
	for _, b := range r.Boxes {
		for _, user := range []uint64{0, 3, 4, 5, 6, 9, 10, top} {
			for _, m := range b.Mails {
				if user != b.User {
					wantAck(t, "another's number", r, user, m.Id, api.ErrNone)
				}
				for _, id := range []uint64{m.Id - 1, m.Id + 1, m.Id ^ 1<<32, m.Id ^ 1<<61, m.Id ^ 1<<62, m.Id ^ 1<<63} {
					if user == b.User && !slices.ContainsFunc(b.Mails, func(m api.Mail) bool { return m.Id == id }) {
						wantAck(t, "a number beside", r, user, id, api.ErrNone)
					}
				}
			}
			for _, id := range []uint64{next, next + 1, end, 1 << 63, top} {
				wantAck(t, "a number that none has", r, user, id, api.ErrNone)
			}
		}
	}
	for _, user := range append(strangers(), 0, top) {
		wantAck(t, "of a user without a box", of(box(3, 0, 16)), user, 0, api.ErrNone)
	}
}

// P16.3: one number in two boxes: the other one's stays.
func TestAckOneNumberInTwoBoxes(t *testing.T) {
	r := of(box(1, 0, 4), box(2, 0, 4), box(3, 0, 1))
	for i, b := range r.Boxes {
		out := wantAck(t, "of one", r, b.User, 0, api.OK)
		wanted := changed(r, func(r *api.Relay) {
			r.Boxes[i].Mails = r.Boxes[i].Mails[1:]
			r.Boxes = slices.DeleteFunc(r.Boxes, func(b api.Box) bool { return len(b.Mails) == 0 })
		})
		want(t, "of one", told(out), told(wanted))
	}
}

// P16.4: mails that are 50 ticks old then stay, those that are 51 go, at whatever place, with the boxes that are empty then.
func TestTick(t *testing.T) {
	r := of(aged(1, 50), aged(2, 0, 50, 1, 49, 2, 48), aged(4, 49, 50), aged(7, 0), aged(8, 25, 3, 50))
	ages := func(of ...[]uint64) string {
		var out []byte
		for _, l := range of {
			out = fmt.Append(out, l)
		}
		return string(out)
	}
	for ticks, wanted := range map[uint64]string{
		0:    ages([]uint64{50}, []uint64{0, 50, 1, 49, 2, 48}, []uint64{49, 50}, []uint64{0}, []uint64{25, 3, 50}),
		1:    ages([]uint64{1, 2, 50, 3, 49}, []uint64{50}, []uint64{1}, []uint64{26, 4}),
		2:    ages([]uint64{2, 3, 4, 50}, []uint64{2}, []uint64{27, 5}),
		3:    ages([]uint64{3, 4, 5}, []uint64{3}, []uint64{28, 6}),
		25:   ages([]uint64{25, 26, 27}, []uint64{25}, []uint64{50, 28}),
		26:   ages([]uint64{26, 27, 28}, []uint64{26}, []uint64{29}),
		48:   ages([]uint64{48, 49, 50}, []uint64{48}),
		49:   ages([]uint64{49, 50}, []uint64{49}),
		50:   ages([]uint64{50}, []uint64{50}),
		51:   "",
		52:   "",
		999:  "",
		1000: "",
	} {
		out := wantTick(t, fmt.Sprint(ticks), r, ticks, api.OK)
		var left [][]uint64
		for _, b := range out.Boxes {
			var old []uint64
			for _, m := range b.Mails {
				old = append(old, out.Now-m.Born)
			}
			left = append(left, old)
		}
		want(t, fmt.Sprint(ticks), ages(left...), wanted)
		if out.Now != now+ticks || out.Next != next {
			t.Errorf("%d ticks: Now %d, Next %d", ticks, out.Now, out.Next)
		}
	}
}

// P16.4: each place of a full box, alone 50 or 51 ticks old then; and all but that one.
func TestTickInEachPlace(t *testing.T) {
	for place := range mostMails {
		for _, ticks := range []uint64{0, 1, 7, 50} {
			for _, others := range []uint64{49, 50, 51} {
				for _, own := range []uint64{50, 51} {
					if ticks == 0 && max(others, own) > 50 {
						continue
					}
					l := slices.Repeat([]uint64{others - min(ticks, others)}, mostMails)
					l[place] = own - min(ticks, own)
					r := of(aged(2, 0), aged(5, l...), aged(9, 0))
					out := wantTick(t, "one of 16", r, ticks, api.OK)
					wanted := 0
					for _, age := range l {
						if age+ticks <= 50 {
							wanted++
						}
					}
					got := 0
					if own := there(out, 5); own >= 0 {
						got = len(out.Boxes[own].Mails)
					}
					if got != wanted {
						t.Errorf("%d ticks, others of %d and one of %d: %d mails; wanted %d", ticks, others, own, got, wanted)
					}
				}
			}
		}
	}
}

// P16.4: as many ticks as may be, and more; up to the last Now, and beyond, also where it is all beyond 64 bits.
func TestTickSize(t *testing.T) {
	for many := range mostBoxes + 1 {
		for _, ticks := range []uint64{0, 1, 49, 50, 51, 999, 1000} {
			wantTick(t, "so many", relayOf(many), ticks, api.OK)
			last := at(end-1-ticks, relayOf(many))
			if out := wantTick(t, "up to the last", last, ticks, api.OK); out.Now != end-1 {
				t.Errorf("up to the last: Now %d", out.Now)
			}
			wantTick(t, "beyond the last", last, ticks+1, api.ErrSize)
			wantTick(t, "beyond the last", last, ticks+2, api.ErrSize)
			wantTick(t, "beyond the last, by 1000", at(end-1, relayOf(many)), max(ticks, 1), api.ErrSize)
		}
		for _, ticks := range []uint64{1001, 1002, 1024, 1 << 16, 1 << 32, 1<<32 + 5, end - now - 1, end - now, end, 1 << 63, 1<<63 + 5, top - 1, top} {
			wantTick(t, "too many", relayOf(many), ticks, api.ErrSize)
		}
		for _, now := range []uint64{0, 1, 50, 1000, end - 1001, end - 1000, end - 1} {
			r := at(now, relayOf(many))
			if now < 50 {
				r = api.Relay{Now: now}
			}
			for _, beyond := range []uint64{0, 1, 2, 50, 1000} {
				if ticks := top - now + 1 + beyond; now > beyond { // Now and ticks are 2^64 and so much beyond
					wantTick(t, "beyond 64 bits", r, ticks, api.ErrSize)
				}
			}
			wantTick(t, "to the end of 64 bits", r, top-now, api.ErrSize)
			wantTick(t, "the most", r, top, api.ErrSize)
		}
	}
}

// P16.4: so many ticks, and then so many, are as many at once.
func TestTicksAreOne(t *testing.T) {
	r := relayOf(mostBoxes)
	for a := range uint64(60) {
		for b := range uint64(60) {
			one, _ := relay.Tick(r, a)
			two, _ := relay.Tick(one, b)
			both := wantTick(t, "both", r, a+b, api.OK)
			want(t, fmt.Sprintf("%d and %d ticks", a, b), told(two), told(both))
		}
	}
}

// P16.5: mails come in the order in which they were pushed, and wait till they are acknowledged, or too old. What is there is held against a queue a user; what is refused leaves it.
func TestMailsComeInOrder(t *testing.T) {
	for seed := range int64(40) {
		rnd := rand.New(rand.NewSource(600 + seed))
		r, queues := api.Relay{}, map[uint64][]api.Mail{}
		for i := range 300 {
			user := uint64(rnd.Intn(8))
			queue := queues[user]
			switch rnd.Intn(5) {
			case 0, 1:
				if len(queue) < mostMails {
					bytes := fmt.Sprint("text ", i)
					queues[user] = append(slices.Clone(queue), api.Mail{Id: r.Next, Bytes: bytes, Born: r.Now})
					r = wantPush(t, "one", r, user, bytes, api.OK)
				}
			case 2:
				if len(queue) > 0 {
					at := rnd.Intn(len(queue))
					r = wantAck(t, "one", r, user, queue[at].Id, api.OK)
					queues[user] = slices.Delete(slices.Clone(queue), at, at+1)
				}
			case 3:
				r = wantTick(t, "some", r, uint64(rnd.Intn(8)), api.OK)
				for user, queue := range queues {
					for len(queue) > 0 && r.Now-queue[0].Born > 50 {
						queue = queue[1:]
					}
					queues[user] = queue
				}
			case 4:
				wantPush(t, "too many bytes", r, user, long(1401), api.ErrSize)
				wantAck(t, "a number that none has", r, user, r.Next, api.ErrNone)
				wantTick(t, "too many ticks", r, 1001, api.ErrSize)
			}
			for user, queue := range queues {
				wanted := api.OK
				if len(queue) == 0 {
					wanted = api.ErrNone
				}
				l := wantPull(t, "the first ones", r, user, wanted)
				want(t, "the first ones", toldMails(l), toldMails(queue[:min(len(queue), 5)]))
			}
		}
	}
}

// P16.5: who pulls and acknowledges all has each mail once, in order.
func TestEachMailOnce(t *testing.T) {
	r, got := api.Relay{}, []string{}
	for i := range 100 {
		r = wantPush(t, "one", r, 5, strconv.Itoa(i), api.OK)
		if i%mostMails < 15 && i < 99 {
			continue
		}
		for {
			l, why := pull(t, r, 5)
			if why == api.ErrNone {
				break
			}
			for _, m := range l {
				got = append(got, m.Bytes)
				r = wantAck(t, "one", r, 5, m.Id, api.OK)
			}
		}
	}
	for i := range 100 {
		if len(got) != 100 || got[i] != strconv.Itoa(i) {
			t.Fatalf("not each once, in order: %q", got)
		}
	}
}

// P16.5: what is done to one user's box leaves all others.
func TestOthersStay(t *testing.T) {
	for i, user := range users() {
		r := relayOf(mostBoxes)
		r.Boxes[i] = box(user, 30, 9)
		others := func(r api.Relay) string {
			left := changed(r, func(r *api.Relay) {
				r.Boxes = slices.DeleteFunc(r.Boxes, func(b api.Box) bool { return b.User == user })
				r.Next = 0
			})
			return told(left)
		}
		fresh := changed(r, func(r *api.Relay) { r.Boxes = slices.Delete(r.Boxes, i, i+1) })
		single := changedBox(r, i, func(b *api.Box) { b.Mails = b.Mails[8:] })
		for what, out := range map[string]api.Relay{
			"Push":         wantPush(t, "one more", r, user, "new", api.OK),
			"a first Push": wantPush(t, "the first one", fresh, user, "new", api.OK),
			"Ack":          wantAck(t, "one", r, user, r.Boxes[i].Mails[4].Id, api.OK),
			"a last Ack":   wantAck(t, "the only one", single, user, single.Boxes[i].Mails[0].Id, api.OK),
		} {
			want(t, what+" left others", others(out), others(r))
		}
	}
}

// manyOf is one of many calls, often with a fault.
func manyOf(t *testing.T, rnd *rand.Rand, r api.Relay) (api.Relay, api.Errno) {
	t.Helper()
	user := uint64(rnd.Intn(10))
	switch rnd.Intn(20) {
	case 0, 1:
		return tick(t, r, []uint64{0, 1, 2, 10, 30, 50, 51, 1000, 1001, top}[rnd.Intn(10)])
	case 2, 3, 4:
		id := r.Next - uint64(rnd.Intn(30))
		if own := there(r, user); own >= 0 && rnd.Intn(3) > 0 {
			id = r.Boxes[own].Mails[rnd.Intn(len(r.Boxes[own].Mails))].Id
		}
		return ack(t, r, user, id)
	case 5:
		_, why := pull(t, r, user)
		return r, why
	case 6:
		return push(t, r, user, long(1398+rnd.Intn(6)))
	case 7:
		wrong := []func(*api.Relay){
			func(r *api.Relay) { r.Now = end + 1 },
			func(r *api.Relay) { r.Boxes = append(r.Boxes, api.Box{User: 100}) },
			func(r *api.Relay) { r.Boxes = append(r.Boxes, api.Box{Mails: mails(0, 1)}) },
		}[rnd.Intn(3)]
		return push(t, changed(r, wrong), user, "new")
	default:
		return push(t, r, user, fmt.Sprint("text ", rnd.Intn(60)))
	}
}

// P16.1 to P16.5: many calls one behind the other, held against the chapter's words; a relay that may be stays one; all errors come.
func TestManyCalls(t *testing.T) {
	var found [10]int
	for seed := range int64(60) {
		rnd := rand.New(rand.NewSource(900 + seed))
		r := api.Relay{}
		if seed%3 == 2 {
			r = api.Relay{Now: end - 200, Next: end - 70}
		}
		for range 400 {
			out, why := manyOf(t, rnd, r)
			found[why]++
			if why == api.OK {
				r = out
			}
			wantRight(t, "behind a call", r, true)
		}
	}
	for _, why := range []api.Errno{api.OK, api.ErrArg, api.ErrSize, api.ErrNone, api.ErrFull, api.ErrOld} {
		if found[why] < 50 {
			t.Errorf("error %d came %d times", why, found[why])
		}
	}
}

// P1: a great many boxes, mails and bytes are refused within a moment.
func TestGreatMany(t *testing.T) {
	text := strings.Repeat("x", 1<<26)
	many := make([]api.Mail, 1_000_000)
	for i := range many {
		many[i] = api.Mail{Id: uint64(i), Bytes: text, Born: now}
	}
	boxes := make([]api.Box, 1_000_000)
	for i := range boxes {
		boxes[i] = api.Box{User: uint64(i), Mails: many}
	}
	for _, r := range []api.Relay{{Boxes: boxes, Now: now, Next: end - 1}, {Boxes: boxes[:8], Now: now, Next: end - 1}, of(api.Box{Mails: many[:16]})} {
		_, why := relay.Push(r, 5, text)
		wantErr(t, "a great many", why, api.ErrArg)
		if relay.Right(r) {
			t.Error("a great many may be")
		}
	}
	_, why := relay.Push(relayOf(8), 3, text)
	wantErr(t, "a great many bytes", why, api.ErrSize)
}

// roomy is a relay with room behind the ends of all lists, in which there are other things.
func roomy(many int) api.Relay {
	r := relayOf(many)
	r.Boxes = append(r.Boxes, box(33, 50, 4), box(34, 60, 5), api.Box{})[:many]
	for i, b := range r.Boxes {
		r.Boxes[i].Mails = append(slices.Clone(b.Mails), mail(81), mail(82), mail(83), api.Mail{Bytes: "room"})[:len(b.Mails)]
	}
	return r
}

// answer is what a call tells: a relay, or mails, and what they were when they were told.
type answer struct {
	r      api.Relay
	l      []api.Mail
	before string
}

func answerOf(r api.Relay, l []api.Mail) answer { return answer{r, l, told(r) + toldMails(l)} }

func (a answer) stays(t *testing.T, what string) {
	t.Helper()
	want(t, what, told(a.r)+toldMails(a.l), a.before)
}

// spoil writes over all of the lists of an answer, and over the room behind their ends.
func (a answer) spoil() {
	spoilBoxes(a.r.Boxes)
	spoilMails(a.l)
}

func spoilBoxes(l []api.Box) {
	l = l[:cap(l)]
	for i, b := range l {
		spoilMails(b.Mails)
		l[i] = api.Box{User: 12345}
	}
}

func spoilMails(l []api.Mail) {
	l = l[:cap(l)]
	for i := range l {
		l[i] = api.Mail{Id: 54321, Bytes: "spoilt", Born: top}
	}
}

// answers are those of all calls that tell something, of each box and of each kind of change.
func answers(t *testing.T, r api.Relay, bytes string) []answer {
	t.Helper()
	var out []answer
	add := func(r api.Relay, why api.Errno) {
		if why == api.OK {
			out = append(out, answerOf(r, nil))
		}
	}
	add(push(t, r, 50, bytes))
	for _, b := range r.Boxes {
		add(push(t, r, b.User, bytes))
		l, _ := pull(t, r, b.User)
		out = append(out, answerOf(api.Relay{}, l))
		for _, place := range []int{0, len(b.Mails) / 2, len(b.Mails) - 1} {
			add(ack(t, r, b.User, b.Mails[place].Id))
		}
	}
	for _, ticks := range []uint64{0, 1, 25, 50, 51} {
		add(tick(t, r, ticks))
	}
	return out
}

// R4: no call changes what it was handed, nor what stands in the room behind its end; what is told of what was told leaves it.
func TestNothingIsChanged(t *testing.T) {
	for many := range mostBoxes + 1 {
		r := roomy(many)
		before := toldWhole(r)
		first := answers(t, r, "new")
		for _, a := range first {
			whole := toldWhole(a.r)
			answers(t, a.r, "newer")
			want(t, "what was told, with its room", toldWhole(a.r), whole)
		}
		relay.Right(r)
		relay.Like(r, copied(r))
		for _, a := range first {
			a.stays(t, "what was told")
		}
		want(t, "the relay, with its room", toldWhole(r), before)
	}
}

// R4: what is done with an answer is not to be seen in what was handed in, nor in another answer; nor what is done with what was handed in, in an answer.
func TestAnswersAreTheirOwn(t *testing.T) {
	for many := range mostBoxes + 1 {
		r := roomy(many)
		before := toldWhole(r)
		first := answers(t, r, "new")
		for i, a := range first {
			a.spoil()
			want(t, "the relay", toldWhole(r), before)
			for _, later := range first[i+1:] {
				later.stays(t, "another answer")
			}
		}
		again := answers(t, r, "new")
		spoilBoxes(r.Boxes)
		for _, a := range again {
			a.stays(t, "an answer, when what was handed in is spoilt")
		}
	}
}

// R4: one list of an answer alone is spoilt, also behind its end: the others stay.
func TestListsOfAnAnswerAreTheirOwn(t *testing.T) {
	for many := 1; many <= mostBoxes; many++ {
		for i := range mostBoxes + 1 {
			for _, a := range answers(t, roomy(many), "new") {
				if i >= len(a.r.Boxes) {
					continue
				}
				wanted := told(changedBox(a.r, i, func(b *api.Box) { b.Mails = nil }))
				spoilMails(a.r.Boxes[i].Mails)
				a.r.Boxes[i].Mails = nil
				want(t, "all but one list", told(a.r), wanted)
			}
		}
	}
}

// R4: boxes that share one list of mails.
func TestSharedLists(t *testing.T) {
	one := append(mails(0, 6), mails(50, 4)...)[:6]
	r := of(api.Box{User: 1, Mails: one}, api.Box{User: 2, Mails: one}, api.Box{User: 3, Mails: one[:5]})
	for _, user := range []uint64{1, 2, 3} {
		wantPush(t, "of one list", r, user, "new", api.OK)
		wantAck(t, "of one list", r, user, one[2].Id, api.OK)
	}
	out := wantTick(t, "of one list", r, 0, api.OK)
	spoilMails(out.Boxes[0].Mails)
	if !slices.Equal(out.Boxes[1].Mails, one) || !slices.Equal(out.Boxes[2].Mails, one[:5]) || !slices.Equal(one, mails(0, 6)) {
		t.Errorf("one list was shared: %q", told(out))
	}
}

// R1: no answer hangs on a call ahead of it: told again, backwards, with other calls between.
func TestNothingIsKept(t *testing.T) {
	var calls []func() string
	tell := func(r api.Relay, why api.Errno) string { return fmt.Sprint(told(r), why) }
	for many := range mostBoxes + 1 {
		r := relayOf(many)
		for i, user := range append(users(), 77) {
			calls = append(calls,
				func() string { return tell(relay.Push(r, user, "new")) },
				func() string { return tell(relay.Push(r, user, mail(9).Bytes)) },
				func() string { return tell(relay.Ack(r, user, mail(2*i).Id)) },
				func() string { return tell(relay.Tick(r, uint64(7*i))) },
				func() string {
					l, why := relay.Pull(r, user)
					return fmt.Sprint(toldMails(l), why, relay.Right(r), relay.Like(r, relayOf(3)))
				})
		}
	}
	var first []string
	for _, call := range calls {
		first = append(first, call())
	}
	for i := len(calls) - 1; i >= 0; i-- {
		want(t, fmt.Sprint("call ", i), calls[i](), first[i])
	}
}

// P1: of nothing at all.
func TestNothingAtAll(t *testing.T) {
	wantRight(t, "nothing", api.Relay{}, true)
	out := wantPush(t, "nothing", api.Relay{}, 0, "", api.OK)
	want(t, "nothing", told(out), told(api.Relay{Boxes: []api.Box{{Mails: make([]api.Mail, 1)}}, Next: 1}))
	wantPull(t, "nothing", api.Relay{}, 0, api.ErrNone)
	wantAck(t, "nothing", api.Relay{}, 0, 0, api.ErrNone)
	want(t, "nothing", told(wantTick(t, "nothing", api.Relay{}, 0, api.OK)), told(api.Relay{}))
}

// fuzzRelay is a text as a relay: of each box a byte of its user, one of how many mails, and two a mail: what it adds to the number ahead, with a bit of its text, and its age.
func fuzzRelay(s string, now, next uint64) api.Relay {
	r := api.Relay{Now: now, Next: next}
	for len(s) > 1 && len(r.Boxes) < mostBoxes+2 {
		b, many := api.Box{User: uint64(s[0])}, min(int(s[1])%20, (len(s)-2)/2)
		id := uint64(0)
		for i := range many {
			id += uint64(s[2+2*i] % 16)
			m := api.Mail{Id: id, Bytes: fmt.Sprint(i), Born: now - uint64(s[3+2*i]%64)}
			if s[2+2*i] > 240 {
				m.Bytes = long(1398 + int(s[2+2*i])%4)
			}
			b.Mails = append(b.Mails, m)
		}
		r.Boxes, s = append(r.Boxes, b), s[2+2*many:]
	}
	return r
}

func FuzzAll(f *testing.F) {
	f.Add("", uint64(0), uint64(0), uint64(0), "", uint64(0))
	f.Add("\x01\x02\x01\x05\x02\x32\x04\x01\x00\x00", uint64(100), uint64(50), uint64(1), "0", uint64(1))
	f.Add("\x01\x02\x01\x05\x02\x33", uint64(100), uint64(50), uint64(1), "new", uint64(50))
	f.Add("\x01\x01\x01\x05\x02\x01\x01\x05", uint64(100), uint64(end-1), uint64(2), "0", uint64(1000))
	f.Add("\x01\x01\xf0\x05\x02\x01\xfa\x05", uint64(end-1), uint64(end-2), uint64(2), "new", uint64(top))
	f.Add("\x05\x10abcdefghijklmnopqrstuvwxyzABCDEF", uint64(500), uint64(9999), uint64(5), "new", uint64(20))
	f.Fuzz(func(t *testing.T, s string, now, next, user uint64, bytes string, number uint64) {
		r := fuzzRelay(s, now, next)
		if relay.Right(r) != rightByTheWords(r) {
			t.Fatalf("%q: right or not", told(r))
		}
		push(t, r, user, bytes)
		pull(t, r, user)
		ack(t, r, user, number)
		out, _ := tick(t, r, number)
		for _, b := range r.Boxes {
			push(t, r, b.User, bytes)
			pull(t, r, b.User)
			for _, m := range b.Mails {
				push(t, r, b.User, m.Bytes)
				ack(t, r, b.User, m.Id)
			}
		}
		if relay.Like(r, out) != (told(r) == told(out)) || !relay.Like(r, copied(r)) {
			t.Fatalf("%q\n%q: like or not", told(r), told(out))
		}
	})
}

func BenchmarkPush(b *testing.B) {
	r := relayOf(mostBoxes)
	for range b.N {
		relay.Push(r, users()[5], "new")
	}
}

package relay

import (
	"slices"

	"demurral/api"
)

const (
	maxBytes = 1400    // of a mail
	maxTicks = 1000    // at once
	end      = 1 << 62 // Now and Next are below it
)

// boxMayBe tells whether a relay's box may be. Sizes are asked for first: there may be a great many mails, or bytes.
func boxMayBe(r api.Relay, b api.Box) bool {
	if len(b.Mails) == 0 || len(b.Mails) > api.MaxMails {
		return false
	}
	for i, m := range b.Mails {
		if i > 0 && b.Mails[i-1].Id >= m.Id || !mailMayBe(r, m) || hasBytes(b.Mails[:i], m.Bytes) {
			return false
		}
	}
	return true
}

func mailMayBe(r api.Relay, m api.Mail) bool {
	return len(m.Bytes) <= maxBytes && m.Id < r.Next && m.Born <= r.Now && isYoung(m, r.Now)
}

// isYoung tells whether a mail, that was there by now, may still wait.
func isYoung(m api.Mail, now uint64) bool { return now-m.Born <= api.MaxAge }

func hasBytes(mails []api.Mail, bytes string) bool {
	return slices.ContainsFunc(mails, func(m api.Mail) bool { return m.Bytes == bytes })
}

func sameBox(a, b api.Box) bool { return a.User == b.User && slices.Equal(a.Mails, b.Mails) }

// mailsOf are a user's mails, in a list of their own.
func mailsOf(r api.Relay, user uint64) []api.Mail {
	if own := filtered(r.Boxes, of(user)); len(own) > 0 {
		return own[0].Mails
	}
	return nil
}

// filter tells whether a mail of a user's box stays.
type filter func(user uint64, m api.Mail) bool

// filtered are the boxes with the mails that stay by the whole chain, and without boxes that are empty then. All lists are new, so that those that were handed in stay.
func filtered(boxes []api.Box, chain ...filter) []api.Box {
	stays := all(chain...)
	var out []api.Box
	for _, b := range boxes {
		var mails []api.Mail
		for _, m := range b.Mails {
			if stays(b.User, m) {
				mails = append(mails, m)
			}
		}
		if len(mails) > 0 {
			out = append(out, api.Box{User: b.User, Mails: mails})
		}
	}
	return out
}

// all is the filter by which stays what stays by each of a chain.
func all(chain ...filter) filter {
	return func(user uint64, m api.Mail) bool {
		return !slices.ContainsFunc(chain, func(stays filter) bool { return !stays(user, m) })
	}
}

// but is the filter by which goes what stays by each of a chain.
func but(chain ...filter) filter {
	stays := all(chain...)
	return func(user uint64, m api.Mail) bool { return !stays(user, m) }
}

func of(user uint64) filter {
	return func(its uint64, _ api.Mail) bool { return its == user }
}

func below(user uint64) filter {
	return func(its uint64, _ api.Mail) bool { return its < user }
}

func above(user uint64) filter {
	return func(its uint64, _ api.Mail) bool { return its > user }
}

func numbered(id uint64) filter {
	return func(_ uint64, m api.Mail) bool { return m.Id == id }
}

func youngAt(now uint64) filter {
	return func(_ uint64, m api.Mail) bool { return isYoung(m, now) }
}

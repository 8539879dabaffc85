package client

import (
	"slices"

	"demurral/api"
	"demurral/session"
)

// opening is how a frame of a kind is opened: the client behind it, and what it brings.
type opening func(c api.Client, f api.Frame, fresh string) (api.Client, api.Event, api.Errno)

// openings are those of all kinds that a frame may have.
func openings() map[int]opening {
	return map[int]opening{
		api.FHello:  openHello,
		api.FText:   openText,
		api.FReveal: openReveal,
	}
}

// openReveal asks for no link: keys are told to all.
func openReveal(c api.Client, f api.Frame, _ string) (api.Client, api.Event, api.Errno) {
	return copied(c), api.Event{From: f.From, Keys: f.Keys}, api.OK
}

func openText(c api.Client, f api.Frame, fresh string) (api.Client, api.Event, api.Errno) {
	talks, text, why := opened(talksWith(c, f.From), f, fresh)
	if why != api.OK {
		return api.Client{}, api.Event{}, why
	}
	return linked(c, f.From, talks), api.Event{From: f.From, Text: text}, api.OK
}

// openHello makes a talk only where none opens the frame: who begins sends more than one of them.
func openHello(c api.Client, f api.Frame, fresh string) (api.Client, api.Event, api.Errno) {
	if next, event, why := openText(c, f, fresh); why == api.OK {
		return next, event, api.OK
	}
	t, why := asked(c, f)
	if why != api.OK {
		return api.Client{}, api.Event{}, why
	}
	talks, text, why := opened([]api.Talk{t}, f, fresh)
	if why != api.OK {
		return api.Client{}, api.Event{}, why
	}
	talks = append(talks, talksWith(c, f.From)...)
	talks = talks[:min(len(talks), api.MaxTalks)]
	c.Once = slices.DeleteFunc(slices.Clone(c.Once), numbered(f.Once))
	c.Seen = slices.Concat(c.Seen, []string{f.Base})
	c.Seen = c.Seen[max(len(c.Seen)-api.MaxSeen, 0):]
	return linked(c, f.From, talks), api.Event{From: f.From, Text: text}, api.OK
}

// opened are the talks behind a frame, that which opened it in front, and the frame's text. Where none opens it, the error is that of the first one.
func opened(talks []api.Talk, f api.Frame, fresh string) ([]api.Talk, string, api.Errno) {
	var first api.Talk
	var text string
	place, failed := -1, api.ErrNone // as long as there is no talk
each:
	for i, t := range talks {
		next, its, why := session.Open(t.Session, f, fresh)
		switch {
		case why == api.OK:
			place, first.Session, text = i, next, its
			break each
		case i == 0:
			failed = why
		}
	}
	if place < 0 {
		return nil, "", failed
	}
	return slices.Concat([]api.Talk{first}, talks[:place], talks[place+1:]), text, api.OK
}

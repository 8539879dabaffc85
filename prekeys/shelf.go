package prekeys

import (
	"cmp"
	"slices"

	"demurral/api"
)

// nothing is what a change tells that tells an error alone.
type nothing struct{}

// mayBe tells whether a shelf may be.
func mayBe(s api.Shelf) bool {
	return len(s.Identity) == api.Size && len(s.Signed.Point) == api.Size &&
		len(s.Once) <= api.MaxOnce && areOnce(s.Once) && differ(s.Once)
}

// areOnce tells whether each of the points may be a one-time one. The Id 0 may not: a frame has it where there is none.
func areOnce(points []api.Point) bool {
	return !slices.ContainsFunc(points, func(p api.Point) bool { return p.Id == 0 || len(p.Point) != api.Size })
}

// differ tells whether no two points have one Id. They are sorted, since there may be a great many that were handed in.
func differ(points []api.Point) bool {
	var ids []uint64
	for _, p := range points {
		ids = append(ids, p.Id)
	}
	slices.Sort(ids)
	return len(slices.Compact(ids)) == len(points)
}

func same(a, b api.Shelf) bool {
	return a.User == b.User && a.Identity == b.Identity && a.Signed == b.Signed && slices.Equal(a.Once, b.Once)
}

// copied is a shelf whose list is its own.
func copied(s api.Shelf) api.Shelf {
	s.Once = slices.Clone(s.Once)
	return s
}

func allCopied(l []api.Shelf) []api.Shelf {
	var out []api.Shelf
	for _, s := range l {
		out = append(out, copied(s))
	}
	return out
}

// place is where a user's shelf is, or would be, and whether it is there.
func place(l []api.Shelf, user uint64) (int, bool) {
	return slices.BinarySearchFunc(l, user, func(s api.Shelf, user uint64) int { return cmp.Compare(s.User, user) })
}

// changed has the closure change a user's shelf in its place, and tells what it tells. The shelves are copied ahead of that, so that those that were handed in stay.
func changed[T any](l []api.Shelf, user uint64, change func(own *api.Shelf) (T, api.Errno)) ([]api.Shelf, T, api.Errno) {
	var none T
	if !Right(l) {
		return nil, none, api.ErrArg
	}
	at, is := place(l, user)
	if !is {
		return nil, none, api.ErrNone
	}
	out := allCopied(l)
	told, why := change(&out[at])
	if why != api.OK {
		return nil, none, why
	}
	return out, told, api.OK
}

// with are the shelves, that may be, with one of a user that has none.
func with(l []api.Shelf, s api.Shelf) ([]api.Shelf, api.Errno) {
	if len(l) == api.MaxUsers {
		return nil, api.ErrFull
	}
	at, _ := place(l, s.User)
	return slices.Insert(allCopied(l), at, copied(s)), api.OK
}

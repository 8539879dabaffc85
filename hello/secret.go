package hello

import (
	"demurral/api"
	"demurral/derive"
	"demurral/ladder"
)

// salt is by what a secret of two is extracted.
const salt = "hello"

// pair is a key, and a point that is taken times it.
type pair [2]string

// secret is what the pairs' points are extracted to.
func secret(pairs ...pair) (string, api.Errno) {
	points, why := joined(pairs...)
	if why != api.OK {
		return "", why
	}
	return derive.Extract(salt, points), api.OK
}

// joined are each pair's point times its key, one behind the other. The ladder looks at the sizes: each key and point is in one of the pairs.
func joined(pairs ...pair) (string, api.Errno) {
	out := ""
	for _, p := range pairs {
		point, why := ladder.Mult(p[0], p[1])
		if why != api.OK {
			return "", why
		}
		out += point
	}
	return out, api.OK
}

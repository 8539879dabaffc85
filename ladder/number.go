package ladder

import (
	"demurral/api"
	"demurral/limb"
)

const (
	zeros     = "\x00\x00\x00\x00\x00\x00\x00\x00\x00\x00\x00\x00\x00\x00\x00\x00\x00\x00\x00\x00\x00\x00\x00\x00\x00\x00\x00\x00\x00"
	nothing   = "\x00\x00\x00" + zeros
	unit      = "\x01\x00\x00" + zeros
	basePoint = "\x09\x00\x00" + zeros
	factor    = "\x41\xdb\x01" + zeros // 121665
)

// number is a number of limb's. It always has its 32 bytes, so the errors that limb tells of are none here.
type number string

func ofPoint(u string) number {
	b := []byte(u)
	b[api.Size-1] &= 127
	n, _ := limb.Norm(string(b))
	return number(n)
}

func (a number) plus(b number) number {
	n, _ := limb.Add(string(a), string(b))
	return number(n)
}

func (a number) minus(b number) number {
	n, _ := limb.Sub(string(a), string(b))
	return number(n)
}

func (a number) times(b number) number {
	n, _ := limb.Mul(string(a), string(b))
	return number(n)
}

func (a number) square() number { return a.times(a) }

func (a number) inverse() number {
	n, _ := limb.Inv(string(a))
	return number(n)
}

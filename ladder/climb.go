package ladder

import "iter"

// highest is the highest bit that a clamped key can have.
const highest = 254

// bits are the bits of a clamped key, from the highest down.
func bits(k string) iter.Seq[byte] {
	return func(yield func(byte) bool) {
		for i := highest; i >= 0; i-- {
			if !yield(k[i/8] >> (i % 8) & 1) {
				return
			}
		}
	}
}

// climb is what is at work on the ladder: u stays, and x2 over z2 and x3 over z3 are two multiples of the point that stand next to each other.
type climb struct {
	u, x2, z2, x3, z3 number
}

func start(u number) climb { return climb{u: u, x2: unit, z2: nothing, x3: u, z3: unit} }

func (c climb) changed(bit byte) climb {
	if bit == 1 {
		c.x2, c.x3 = c.x3, c.x2
		c.z2, c.z3 = c.z3, c.z2
	}
	return c
}

// step names what the chapter calls A to E sum2, gap2, sum3, gap3 and rest.
func (c climb) step() climb {
	sum2, gap2 := c.x2.plus(c.z2), c.x2.minus(c.z2)
	sum3, gap3 := c.x3.plus(c.z3), c.x3.minus(c.z3)
	sumSquare, gapSquare := sum2.square(), gap2.square()
	rest := sumSquare.minus(gapSquare)
	left, right := gap3.times(sum2), sum3.times(gap2)
	return climb{
		u:  c.u,
		x2: sumSquare.times(gapSquare),
		z2: rest.times(sumSquare.plus(rest.times(factor))),
		x3: left.plus(right).square(),
		z3: c.u.times(left.minus(right).square()),
	}
}

func (c climb) point() number { return c.x2.times(c.z2.inverse()) }

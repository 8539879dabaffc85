package limb_test

import (
	"math/big"
	"math/rand"
	"slices"
	"strings"
	"testing"

	"demurral/api"
	"demurral/limb"
)

type two func(a, b string) (string, api.Errno)

type one func(a string) (string, api.Errno)

// prime is p by the library's numbers: the tests hold limb against them.
func prime() *big.Int { return above(255, -19) }

// above is 2^power and as much as more says.
func above(power uint, more int64) *big.Int {
	n := new(big.Int).Lsh(big.NewInt(1), power)
	return n.Add(n, big.NewInt(more))
}

func tell(n *big.Int) string {
	b := n.FillBytes(make([]byte, api.Size))
	slices.Reverse(b)
	return string(b)
}

func number(s string) *big.Int {
	b := []byte(s)
	slices.Reverse(b)
	return new(big.Int).SetBytes(b)
}

// left is what is left of n, as limb should tell it.
func left(n *big.Int) string { return tell(new(big.Int).Mod(n, prime())) }

func edges() []string {
	var out []string
	for _, n := range []int64{0, 1, 2, 18, 19, 20, 37, 38} {
		out = append(out, tell(big.NewInt(n)))
	}
	for _, n := range []int64{-2, -1, 0, 1, 2} {
		out = append(out, tell(above(64, n)), tell(above(128, n)), tell(above(192, n)), tell(above(254, n)), tell(above(255, n)))
		out = append(out, tell(above(255, n-19)), tell(above(256, n-38)))
	}
	return append(out, tell(above(256, -3)), tell(above(256, -2)), tell(above(256, -1)))
}

// some are numbers without a rule, the same at every run; every fourth has whole words of ones or zeros, where carries go far.
func some(many int) []string {
	r := rand.New(rand.NewSource(1))
	var out []string
	for i := range many {
		b := make([]byte, api.Size)
		r.Read(b)
		if i%4 == 3 {
			fill := byte(r.Intn(2) * 255)
			for j := range 8 * (1 + r.Intn(3)) {
				b[(8*(i/4)+j)%api.Size] = fill
			}
		}
		out = append(out, string(b))
	}
	return out
}

func want(t *testing.T, what string, got string, why api.Errno, wanted string) {
	t.Helper()
	if why != api.OK || got != wanted {
		t.Errorf("%s: %x, error %d; wanted %x", what, got, why, wanted)
	}
}

func of2(t *testing.T, f two, a, b string) string {
	t.Helper()
	s, why := f(a, b)
	if why != api.OK || len(s) != api.Size {
		t.Fatalf("%x and %x: %x, error %d", a, b, s, why)
	}
	return s
}

func checkTwo(t *testing.T, a, b string) {
	t.Helper()
	m, n := number(a), number(b)
	s, why := limb.Add(a, b)
	want(t, "Add", s, why, left(new(big.Int).Add(m, n)))
	s, why = limb.Sub(a, b)
	want(t, "Sub", s, why, left(new(big.Int).Sub(m, n)))
	s, why = limb.Mul(a, b)
	want(t, "Mul", s, why, left(new(big.Int).Mul(m, n)))
	if t.Failed() {
		t.Fatalf("a is %x, b is %x", a, b)
	}
}

// P1.1: the examples that the document and its words give.
func TestExamples(t *testing.T) {
	s, why := limb.Mul(tell(big.NewInt(2)), tell(above(254, 0)))
	want(t, "2 times 2^254", s, why, tell(big.NewInt(19)))
	for _, x := range []struct {
		n    *big.Int
		left *big.Int
	}{
		{big.NewInt(0), big.NewInt(0)},
		{big.NewInt(1), big.NewInt(1)},
		{above(255, -20), above(255, -20)},
		{above(255, -19), big.NewInt(0)},
		{above(255, -18), big.NewInt(1)},
		{above(255, -1), big.NewInt(18)},
		{above(255, 0), big.NewInt(19)},
		{above(256, -39), above(255, -20)},
		{above(256, -38), big.NewInt(0)},
		{above(256, -37), big.NewInt(1)},
		{above(256, -1), big.NewInt(37)},
	} {
		s, why := limb.Norm(tell(x.n))
		want(t, "Norm of "+x.n.String(), s, why, tell(x.left))
	}
}

// P1.1: the lowest byte comes first.
func TestOrderOfBytes(t *testing.T) {
	var b [api.Size]byte
	for i := range b {
		b[i] = byte(i + 1)
	}
	s, why := limb.Norm(string(b[:]))
	want(t, "Norm", s, why, string(b[:]))
	for i := range 31 {
		a := strings.Repeat("\x00", i) + "\xff" + strings.Repeat("\x00", 31-i)
		b := strings.Repeat("\x00", i) + "\x01" + strings.Repeat("\x00", 31-i)
		s, why := limb.Add(a, b)
		sum := strings.Repeat("\x00", i+1) + "\x01" + strings.Repeat("\x00", 30-i)
		want(t, "Add", s, why, sum)
		s, why = limb.Sub(sum, b)
		want(t, "Sub", s, why, a)
	}
}

// P1.1
func TestAgainstTheLibrary(t *testing.T) {
	numbers := append(edges(), some(100)...)
	for _, a := range numbers {
		s, why := limb.Norm(a)
		want(t, "Norm", s, why, left(number(a)))
		for _, b := range numbers {
			checkTwo(t, a, b)
		}
	}
}

// P1.1: no other size than 32 bytes, wherever it stands.
func TestSize(t *testing.T) {
	ones := map[string]one{"Norm": limb.Norm, "Inv": limb.Inv}
	twos := map[string]two{"Add": limb.Add, "Sub": limb.Sub, "Mul": limb.Mul}
	good := tell(big.NewInt(5))
	check := func(name, s string, why api.Errno) {
		t.Helper()
		if s != "" || why != api.ErrSize {
			t.Errorf("%s: %x, error %d", name, s, why)
		}
	}
	for _, many := range []int{0, 1, 8, 16, 24, 30, 31, 33, 34, 40, 63, 64, 1000} {
		for _, fill := range []string{"\x00", "\x01", "\xff"} {
			bad := strings.Repeat(fill, many)
			for name, f := range ones {
				s, why := f(bad)
				check(name, s, why)
			}
			for name, f := range twos {
				for _, x := range [][2]string{{bad, good}, {good, bad}, {bad, bad}} {
					s, why := f(x[0], x[1])
					check(name, s, why)
				}
			}
		}
	}
}

// P1.2
func TestInverse(t *testing.T) {
	nothing, unit := tell(big.NewInt(0)), tell(big.NewInt(1))
	for _, a := range append(edges(), some(200)...) {
		n := new(big.Int).Mod(number(a), prime())
		s, why := limb.Inv(a)
		if n.Sign() == 0 {
			want(t, "Inv of nothing", s, why, nothing)
			continue
		}
		want(t, "Inv", s, why, tell(new(big.Int).ModInverse(n, prime())))
		want(t, "Mul by Inv", of2(t, limb.Mul, a, s), api.OK, unit)
		again, why := limb.Inv(s)
		want(t, "Inv of Inv", again, why, tell(n))
	}
}

// P1.3: a few of all, so that three of them are held against each other in all ways.
func TestField(t *testing.T) {
	numbers := slices.Concat(edges()[:8], edges()[20:30], edges()[40:], some(12))
	for _, a := range numbers {
		for _, b := range numbers {
			checkOrder(t, a, b)
			for _, c := range numbers {
				checkThree(t, a, b, c)
			}
		}
	}
}

func checkOrder(t *testing.T, a, b string) {
	t.Helper()
	rest, why := limb.Norm(a)
	want(t, "a + b - b", of2(t, limb.Sub, of2(t, limb.Add, a, b), b), why, rest)
	want(t, "a - b + b", of2(t, limb.Add, of2(t, limb.Sub, a, b), b), why, rest)
	want(t, "a + b", of2(t, limb.Add, a, b), api.OK, of2(t, limb.Add, b, a))
	want(t, "a * b", of2(t, limb.Mul, a, b), api.OK, of2(t, limb.Mul, b, a))
	want(t, "a + 0", of2(t, limb.Add, a, tell(big.NewInt(0))), api.OK, rest)
	want(t, "a * 1", of2(t, limb.Mul, a, tell(big.NewInt(1))), api.OK, rest)
	want(t, "a - a", of2(t, limb.Sub, a, a), api.OK, tell(big.NewInt(0)))
}

func checkThree(t *testing.T, a, b, c string) {
	t.Helper()
	sum := of2(t, limb.Add, b, c)
	want(t, "a + (b + c)", of2(t, limb.Add, a, sum), api.OK, of2(t, limb.Add, of2(t, limb.Add, a, b), c))
	want(t, "a * (b * c)", of2(t, limb.Mul, a, of2(t, limb.Mul, b, c)), api.OK, of2(t, limb.Mul, of2(t, limb.Mul, a, b), c))
	spread := of2(t, limb.Add, of2(t, limb.Mul, a, b), of2(t, limb.Mul, a, c))
	want(t, "a * (b + c)", of2(t, limb.Mul, a, sum), api.OK, spread)
}

func BenchmarkMul(b *testing.B) {
	l := some(2)
	for range b.N {
		limb.Mul(l[0], l[1])
	}
}

func BenchmarkInv(b *testing.B) {
	l := some(1)
	for range b.N {
		limb.Inv(l[0])
	}
}

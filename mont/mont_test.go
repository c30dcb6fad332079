package mont

import (
	"math"
	"math/big"
	"testing"

	"epicycle/api"
)

const top = math.MaxUint64

// moduli: the ends of what may be a modulus, and others, primes and not.
func moduli() []uint64 {
	return []uint64{
		3, 5, 7, 9, 15, 97, 255, 65537, 998244353, 1<<32 - 1, 1<<32 + 1,
		1<<61 - 1, 1<<62 - 1, 1<<62 + 1, 4179340454199820289,
		1<<63 - 25, 1<<63 - 3, 1<<63 - 1,
	}
}

// about: numbers at and about a modulus, its multiples, and the ends of what has 64 bits.
func about(m uint64) []uint64 {
	most := top / m * m
	return []uint64{
		0, 1, 2, 3, m / 2, m/2 + 1, m - 2, m - 1, m, m + 1, 2*m - 1, 2 * m, 2*m + 1,
		most - 1, most, 1<<32 - 1, 1 << 32, 1<<63 - 1, 1 << 63, 1<<63 + 1, top - 1, top,
	}
}

// mingled: so many numbers of all lengths, always the same.
func mingled(count int) []uint64 {
	x := uint64(88172645463325252)
	all := make([]uint64, count)
	for i := range all {
		x ^= x << 13
		x ^= x >> 7
		x ^= x << 17
		all[i] = x >> (i * 7 % 64)
	}
	return all
}

// triples: two numbers and a modulus: all pairs about the moduli, and mingled ones.
func triples() [][3]uint64 {
	var all [][3]uint64
	for _, m := range moduli() {
		for _, a := range about(m) {
			for _, b := range about(m) {
				all = append(all, [3]uint64{a, b, m})
			}
		}
	}
	more := mingled(6000)
	for i := 0; i+3 <= len(more); i += 3 {
		if m := more[i+2]>>1 | 1; m >= 3 {
			all = append(all, [3]uint64{more[i], more[i+1], m})
		}
	}
	return all
}

func bigOf(a uint64) *big.Int { return new(big.Int).SetUint64(a) }

// word: 2^64.
func word() *big.Int { return new(big.Int).Lsh(big.NewInt(1), 64) }

// rest: a number's rest modulo m, of numbers below 0 too.
func rest(n *big.Int, m uint64) uint64 {
	return new(big.Int).Mod(n, bigOf(m)).Uint64()
}

// standsFor: the rest of a number times 2^64.
func standsFor(n *big.Int, m uint64) uint64 {
	return rest(new(big.Int).Mul(n, word()), m)
}

// stoodFor: the rest which times 2^64 has a number's rest.
func stoodFor(n *big.Int, m uint64) *big.Int {
	inverse := new(big.Int).ModInverse(word(), bigOf(m))
	return inverse.Mul(inverse, n).Mod(inverse, bigOf(m))
}

func expect(t *testing.T, name string, got, want uint64, of ...uint64) {
	t.Helper()
	if got != want {
		t.Fatalf("%s of %v: %d, not %d", name, of, got, want)
	}
}

func context(t *testing.T, m uint64) *Context {
	t.Helper()
	c, fault := New(m)
	if c == nil || fault != api.OK {
		t.Fatalf("New of %d: %v, %d", m, c, fault)
	}
	return c
}

// P3.1: what is no modulus is refused, with no context.
func TestNoModulus(t *testing.T) {
	wrong := []uint64{
		0, 1, 2, 4, 6, 8, 100, 1 << 32, 1<<62 + 2, 1<<63 - 2,
		1 << 63, 1<<63 + 1, 1<<63 + 2, 1<<63 + 3, top - 2, top - 1, top,
	}
	for _, m := range wrong {
		if c, fault := New(m); c != nil || fault != api.ErrArg {
			t.Errorf("New of %d: %v, %d", m, c, fault)
		}
	}
}

// P3.1: each odd number from 3 on, below 2^63, has a context, with its own One.
func TestModulusAndOne(t *testing.T) {
	all := moduli()
	for m := uint64(3); m < 2000; m += 2 {
		all = append(all, m)
	}
	for _, m := range all {
		c := context(t, m)
		expect(t, "Modulus", c.Modulus(), m, m)
		expect(t, "One", c.One(), rest(word(), m), m)
	}
}

// P3.1: the chapter's examples.
func TestExamples(t *testing.T) {
	c := context(t, 7)
	expect(t, "One", c.One(), 2)
	expect(t, "In", c.In(3), 6, 3)
	expect(t, "Mul", c.Mul(6, 6), 4, 6, 6)
	expect(t, "Out", c.Out(4), 2, 4)
}

// P3.1: In and Out, of all numbers, of those that are no rests too.
func TestInAndOut(t *testing.T) {
	for _, three := range triples() {
		a, m := three[0], three[2]
		c := context(t, m)
		expect(t, "In", c.In(a), standsFor(bigOf(a), m), a, m)
		expect(t, "Out", c.Out(a), stoodFor(bigOf(a), m).Uint64(), a, m)
		expect(t, "Out of In", c.Out(c.In(a)), a%m, a, m)
		expect(t, "In of Out", c.In(c.Out(a)), a%m, a, m)
	}
}

// P3.1: sums, differences, opposites and products, of all numbers.
func TestSumsAndProducts(t *testing.T) {
	for _, three := range triples() {
		a, b, m := three[0], three[1], three[2]
		c := context(t, m)
		x, y := bigOf(a), bigOf(b)
		expect(t, "Add", c.Add(a, b), rest(new(big.Int).Add(x, y), m), a, b, m)
		expect(t, "Sub", c.Sub(a, b), rest(new(big.Int).Sub(x, y), m), a, b, m)
		expect(t, "Neg", c.Neg(a), rest(new(big.Int).Neg(x), m), a, m)
		expect(t, "Mul", c.Mul(a, b), stoodFor(new(big.Int).Mul(x, y), m).Uint64(), a, b, m)
	}
}

// P3.1: powers, of all numbers and exponents.
func TestPowers(t *testing.T) {
	for _, three := range triples() {
		a, e, m := three[0], three[1], three[2]
		c := context(t, m)
		power := new(big.Int).Exp(stoodFor(bigOf(a), m), bigOf(e), bigOf(m))
		expect(t, "Pow", c.Pow(a, e), standsFor(power, m), a, e, m)
	}
}

// P3.1: the 0-th power of any number is One, of 0 and of m too; the first is its rest.
func TestFirstPowers(t *testing.T) {
	for _, m := range moduli() {
		c := context(t, m)
		for _, a := range about(m) {
			expect(t, "Pow", c.Pow(a, 0), c.One(), a, 0, m)
			expect(t, "Pow", c.Pow(a, 1), a%m, a, 1, m)
			expect(t, "Pow", c.Pow(a, 2), c.Mul(a, a), a, 2, m)
		}
	}
}

// P3.1: of a nil context every call answers 0.
func TestNil(t *testing.T) {
	var c *Context
	expect(t, "Modulus", c.Modulus(), 0)
	expect(t, "One", c.One(), 0)
	for _, a := range about(7) {
		expect(t, "In", c.In(a), 0, a)
		expect(t, "Out", c.Out(a), 0, a)
		expect(t, "Neg", c.Neg(a), 0, a)
		for _, b := range about(7) {
			expect(t, "Mul", c.Mul(a, b), 0, a, b)
			expect(t, "Add", c.Add(a, b), 0, a, b)
			expect(t, "Sub", c.Sub(a, b), 0, a, b)
			expect(t, "Pow", c.Pow(a, b), 0, a, b)
		}
	}
}

// P3.1: contexts know nothing of one another, and a call leaves no trace.
func TestContextsStandAlone(t *testing.T) {
	first, second := context(t, 7), context(t, 1<<63-1)
	for range 2 {
		expect(t, "Mul", first.Mul(6, 6), 4, 6, 6)
		expect(t, "Pow", second.Pow(second.In(2), 63), second.One(), 2, 63)
		expect(t, "Modulus", first.Modulus(), 7)
		expect(t, "Modulus", second.Modulus(), 1<<63-1)
	}
}

// P3.2: Out of what was done with what stands for numbers is what is done with these, modulo m.
func TestOutOfWhatStands(t *testing.T) {
	for _, three := range triples() {
		a, b, m := three[0], three[1], three[2]
		c := context(t, m)
		x, y := c.In(a), c.In(b)
		p, q := bigOf(a), bigOf(b)
		expect(t, "Add", c.Out(c.Add(x, y)), rest(new(big.Int).Add(p, q), m), a, b, m)
		expect(t, "Sub", c.Out(c.Sub(x, y)), rest(new(big.Int).Sub(p, q), m), a, b, m)
		expect(t, "Neg", c.Out(c.Neg(x)), rest(new(big.Int).Neg(p), m), a, m)
		expect(t, "Mul", c.Out(c.Mul(x, y)), rest(new(big.Int).Mul(p, q), m), a, b, m)
		power := new(big.Int).Exp(p, q, bigOf(m))
		expect(t, "Pow", c.Out(c.Pow(x, b)), power.Uint64(), a, b, m)
	}
}

// P3.2: modulo small numbers, all pairs of rests.
func TestOutOfAllPairs(t *testing.T) {
	for m := uint64(3); m < 64; m += 2 {
		c := context(t, m)
		for a := range m {
			power := 1 % m
			for b := range m {
				x, y := c.In(a), c.In(b)
				expect(t, "Add", c.Out(c.Add(x, y)), (a+b)%m, a, b, m)
				expect(t, "Sub", c.Out(c.Sub(x, y)), (a+m-b)%m, a, b, m)
				expect(t, "Mul", c.Out(c.Mul(x, y)), a*b%m, a, b, m)
				expect(t, "Pow", c.Out(c.Pow(x, b)), power, a, b, m)
				power = power * a % m
			}
		}
	}
}

// P3.2: what stands for a number plus a multiple of m stands for it as well.
func TestOutOfWhatIsNoRest(t *testing.T) {
	for _, m := range moduli() {
		c := context(t, m)
		x, y := c.In(5)+m, c.In(m-2)
		expect(t, "Out", c.Out(x), 5%m, x, m)
		expect(t, "Add", c.Out(c.Add(x, y)), 3%m, x, y, m)
		expect(t, "Sub", c.Out(c.Sub(x, y)), 7%m, x, y, m)
		expect(t, "Neg", c.Out(c.Neg(x)), rest(big.NewInt(-5), m), x, m)
		expect(t, "Mul", c.Out(c.Mul(x, y)), rest(big.NewInt(-10), m), x, y, m)
		expect(t, "Pow", c.Out(c.Pow(x, 3)), 125%m, x, 3, m)
	}
}

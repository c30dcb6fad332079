package modular

import (
	"math"
	"math/big"
	"testing"
)

const top = math.MaxUint64

// edges: numbers at and about the ends of what has 64 bits, and of what has 32 and 63.
func edges() []uint64 {
	return []uint64{
		0, 1, 2, 3, 4, 6, 7, 12, 1000, 65537, 1<<32 - 1, 1 << 32, 1<<32 + 1,
		1<<63 - 1, 1 << 63, 1<<63 + 1, top - 58, top - 1, top,
	}
}

// mingled: so many numbers of all lengths, always the same.
func mingled(count int) []uint64 {
	x := uint64(88172645463325252)
	all := make([]uint64, count)
	for i := range all {
		x ^= x << 13
		x ^= x >> 7
		x ^= x << 17
		all[i] = x >> (i * 7 % 64)
	}
	return all
}

// triples: all triples of the edges, and some of mingled numbers.
func triples() [][3]uint64 {
	var all [][3]uint64
	for _, a := range edges() {
		for _, b := range edges() {
			for _, c := range edges() {
				all = append(all, [3]uint64{a, b, c})
			}
		}
	}
	more := mingled(3000)
	for i := 0; i+3 <= len(more); i += 3 {
		all = append(all, [3]uint64(more[i:i+3]))
	}
	return all
}

func bigOf(a uint64) *big.Int { return new(big.Int).SetUint64(a) }

// rest: a number's rest modulo m, of numbers below 0 too; 0 modulo 0.
func rest(n *big.Int, m uint64) uint64 {
	if m == 0 {
		return 0
	}
	return new(big.Int).Mod(n, bigOf(m)).Uint64()
}

func powerRest(a, e, m uint64) uint64 {
	if m == 0 {
		return 0
	}
	return new(big.Int).Exp(bigOf(a), bigOf(e), bigOf(m)).Uint64()
}

func expect(t *testing.T, name string, got, want uint64, of ...uint64) {
	t.Helper()
	if got != want {
		t.Fatalf("%s of %v: %d, not %d", name, of, got, want)
	}
}

// P2.1: sums, differences, opposites, products and powers.
func TestRests(t *testing.T) {
	for _, c := range triples() {
		a, b, m := c[0], c[1], c[2]
		x, y := bigOf(a), bigOf(b)
		expect(t, "Add", Add(a, b, m), rest(new(big.Int).Add(x, y), m), a, b, m)
		expect(t, "Sub", Sub(a, b, m), rest(new(big.Int).Sub(x, y), m), a, b, m)
		expect(t, "Neg", Neg(a, m), rest(new(big.Int).Neg(x), m), a, m)
		expect(t, "Mul", Mul(a, b, m), rest(new(big.Int).Mul(x, y), m), a, b, m)
		expect(t, "Pow", Pow(a, b, m), powerRest(a, b, m), a, b, m)
	}
}

// P2.1: what goes beyond 64 bits ahead of the rest isn't cut.
func TestRestsOfMoreBits(t *testing.T) {
	expect(t, "Add", Add(top, top, 10), 0, top, top, 10)
	expect(t, "Add", Add(top, 1, 1000), 616, top, 1, 1000)
	expect(t, "Add", Add(top-1, top-1, top), top-2, top-1, top-1, top)
	expect(t, "Mul", Mul(1<<63, 2, 1000), 616, 1<<63, 2, 1000)
	expect(t, "Mul", Mul(top-1, top-1, top), 1, top-1, top-1, top)
	expect(t, "Pow", Pow(2, 64, 1000), 616, 2, 64, 1000)
	expect(t, "Sub", Sub(0, top, 10), 5, 0, top, 10)
}

// P2.1: a modulus of 0 answers 0, one of 1 has no other rest.
func TestRestsOfNoughtAndOne(t *testing.T) {
	for _, a := range edges() {
		for _, b := range edges() {
			for m := range uint64(2) {
				expect(t, "Add", Add(a, b, m), 0, a, b, m)
				expect(t, "Sub", Sub(a, b, m), 0, a, b, m)
				expect(t, "Neg", Neg(a, m), 0, a, m)
				expect(t, "Mul", Mul(a, b, m), 0, a, b, m)
				expect(t, "Pow", Pow(a, b, m), 0, a, b, m)
			}
		}
	}
}

// P2.1: the 0-th power of any number is 1, of 0 too.
func TestPowersOfNought(t *testing.T) {
	for _, a := range edges() {
		for _, m := range edges() {
			if m < 2 {
				continue
			}
			expect(t, "Pow", Pow(a, 0, m), 1, a, 0, m)
			expect(t, "Pow", Pow(a, 1, m), a%m, a, 1, m)
		}
	}
	expect(t, "Pow", Pow(0, top, 7), 0, 0, top, 7)
	expect(t, "Pow", Pow(3, 6, 7), 1, 3, 6, 7)
}

// P2.1: the greatest number that divides both, where one is 0, and where both are.
func TestGcd(t *testing.T) {
	for _, c := range triples() {
		a, b := c[0], c[1]
		want := new(big.Int).GCD(nil, nil, bigOf(a), bigOf(b)).Uint64()
		expect(t, "Gcd", Gcd(a, b), want, a, b)
		if Coprime(a, b) != (want == 1) {
			t.Fatalf("Coprime of %d and %d: %v", a, b, Coprime(a, b))
		}
	}
	for _, a := range edges() {
		expect(t, "Gcd", Gcd(a, 0), a, a, 0)
		expect(t, "Gcd", Gcd(0, a), a, 0, a)
	}
	// Neighbours of Fibonacci's row go the longest way.
	expect(t, "Gcd", Gcd(12200160415121876738, 7540113804746346429), 1)
	expect(t, "Gcd", Gcd(1<<63, 3<<62), 1<<62)
	if Coprime(0, 0) || !Coprime(0, 1) || !Coprime(1, 0) || Coprime(0, top) || !Coprime(1, 1) {
		t.Error("Coprime of noughts and ones")
	}
}

// P2.1: inverses; there are none of numbers that aren't coprime, nor modulo 0 and 1.
func TestInv(t *testing.T) {
	for _, c := range triples() {
		a, m := c[0], c[1]
		var want uint64
		var has bool
		if m >= 2 {
			if x := new(big.Int).ModInverse(bigOf(a), bigOf(m)); x != nil {
				want, has = x.Uint64(), true
			}
		}
		got, ok := Inv(a, m)
		if got != want || ok != has {
			t.Fatalf("Inv of %d modulo %d: %d, %v, not %d, %v", a, m, got, ok, want, has)
		}
	}
	if x, ok := Inv(3, 7); x != 5 || !ok {
		t.Errorf("Inv of 3 modulo 7: %d, %v", x, ok)
	}
	if x, ok := Inv(12200160415121876738, top); ok != (Gcd(12200160415121876738, top) == 1) || ok && Mul(x, 12200160415121876738, top) != 1 {
		t.Errorf("Inv modulo the greatest: %d, %v", x, ok)
	}
}

// joined: the number that Join must answer; false: there is none.
func joined(r, a, s, b uint64) (uint64, bool) {
	x, y := bigOf(a), bigOf(b)
	product := new(big.Int).Mul(x, y)
	if product.Sign() == 0 || product.BitLen() > 64 || new(big.Int).GCD(nil, nil, x, y).Uint64() != 1 {
		return 0, false
	}
	// r times what is 1 modulo a and 0 modulo b, and s the other way round.
	u, v := new(big.Int), new(big.Int)
	new(big.Int).GCD(u, v, x, y)
	sum := v.Mul(v, y).Mul(v, bigOf(r))
	sum.Add(sum, u.Mul(u, x).Mul(u, bigOf(s)))
	return sum.Mod(sum, product).Uint64(), true
}

func expectJoin(t *testing.T, r, a, s, b uint64) {
	t.Helper()
	want, has := joined(r, a, s, b)
	got, ok := Join(r, a, s, b)
	if got != want || ok != has {
		t.Fatalf("Join of %d modulo %d, %d modulo %d: %d, %v, not %d, %v", r, a, s, b, got, ok, want, has)
	}
}

// P2.1: numbers of two rests, over all pairs of edges.
func TestJoin(t *testing.T) {
	for _, c := range triples() {
		for _, r := range []uint64{0, 1, 5, 1 << 63, top} {
			expectJoin(t, r, c[0], c[2], c[1])
		}
	}
	if x, ok := Join(2, 3, 3, 5); x != 8 || !ok {
		t.Errorf("Join of 2 modulo 3, 3 modulo 5: %d, %v", x, ok)
	}
}

// P2.1: every pair of rests of small numbers belongs to just one number.
func TestJoinSmall(t *testing.T) {
	for a := range uint64(14) {
		for b := range uint64(14) {
			for n := range a * b {
				x, ok := Join(n, a, n, b)
				if !Coprime(a, b) {
					n = 0
				}
				if x != n || ok != Coprime(a, b) {
					t.Fatalf("Join of %d modulo %d and %d: %d, %v", n, a, b, x, ok)
				}
			}
		}
	}
}

// P2.1: the edges of a product's bits, and numbers that can't be joined.
func TestJoinEdges(t *testing.T) {
	for _, c := range [][2]uint64{
		{1<<32 - 1, 1<<32 + 1}, {1<<32 + 1, 1<<32 - 1}, {1, top}, {top, 1}, {1, 1},
		{1 << 63, 1}, {3, top / 3}, {5, 3689348814741910322}, {1<<32 - 1, 1 << 32},
	} {
		if _, ok := Join(0, c[0], 0, c[1]); !ok {
			t.Errorf("%d and %d aren't joined", c[0], c[1])
		}
		for _, n := range []uint64{0, 1, c[0]*c[1] - 1, c[0] * c[1] / 2} {
			expectJoin(t, n%c[0], c[0], n%c[1], c[1])
			expectJoin(t, n, c[0], n, c[1])
			expectJoin(t, top, c[0], n, c[1])
		}
	}
	for _, c := range [][2]uint64{
		{0, 0}, {0, 1}, {1, 0}, {0, top}, {4, 6}, {7, 7}, {top, top}, {1 << 32, 1<<32 + 1},
		{2, top}, {1 << 63, 3}, {top, top - 1}, {1 << 32, 1 << 32},
	} {
		if x, ok := Join(1, c[0], 2, c[1]); x != 0 || ok {
			t.Errorf("%d and %d are joined: %d", c[0], c[1], x)
		}
	}
}

// moduli: what a ring is tried by.
func moduli() []uint64 {
	return []uint64{1, 2, 3, 12, 1<<32 + 1, 1<<63 - 1, 1 << 63, 1<<63 + 1, top - 58, top - 1, top}
}

// P2.2: rests modulo m are a ring.
func TestRing(t *testing.T) {
	some := append([]uint64{0, 1, 2, 1 << 63, top - 1, top}, mingled(6)...)
	for _, m := range moduli() {
		for _, a := range some {
			expect(t, "a + 0", Add(a, 0, m), a%m, a, m)
			expect(t, "a 1", Mul(a, 1, m), a%m, a, m)
			expect(t, "a - a", Add(a, Neg(a, m), m), 0, a, m)
			for _, b := range some {
				expect(t, "a + b", Add(a, b, m), Add(b, a, m), a, b, m)
				expect(t, "a b", Mul(a, b, m), Mul(b, a, m), a, b, m)
				expect(t, "a - b + b", Add(Sub(a, b, m), b, m), a%m, a, b, m)
				for _, c := range some {
					expect(t, "(a + b) + c", Add(Add(a, b, m), c, m), Add(a, Add(b, c, m), m), a, b, c, m)
					expect(t, "(a b) c", Mul(Mul(a, b, m), c, m), Mul(a, Mul(b, c, m), m), a, b, c, m)
					expect(t, "a (b + c)", Mul(a, Add(b, c, m), m), Add(Mul(a, b, m), Mul(a, c, m), m), a, b, c, m)
				}
			}
		}
	}
}

// P2.2: what has an inverse is just what is coprime to m, from 2 on.
func TestInverses(t *testing.T) {
	moduli := append(edges(), mingled(100)...)
	for m := range uint64(60) {
		moduli = append(moduli, m)
	}
	for _, m := range moduli {
		for _, a := range append(mingled(40), edges()...) {
			x, ok := Inv(a, m)
			if ok != (m >= 2 && Coprime(a, m)) {
				t.Fatalf("Inv of %d modulo %d: %v", a, m, ok)
			}
			if ok && (x >= m || Mul(a, x, m) != 1) || !ok && x != 0 {
				t.Fatalf("Inv of %d modulo %d: %d", a, m, x)
			}
		}
	}
}

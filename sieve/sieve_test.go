package sieve

import (
	"math"
	"math/big"
	"reflect"
	"slices"
	"testing"

	"epicycle/api"
	"epicycle/proof"
)

const top = math.MaxUint64

// isPrime: what math/big says, which is sure below 2^64.
func isPrime(n uint64) bool { return new(big.Int).SetUint64(n).ProbablyPrime(0) }

// primesUpTo: all of them, each told by itself.
func primesUpTo(upto int) []int {
	var all []int
	for n := 2; n <= upto; n++ {
		if isPrime(uint64(n)) {
			all = append(all, n)
		}
	}
	return all
}

// oddPrimes: all of them that have a Row.
func oddPrimes() []uint64 {
	var all []uint64
	for _, p := range primesUpTo(api.MaxSmall)[1:] {
		all = append(all, uint64(p))
	}
	return all
}

// mingled: so many numbers up to 2^32, of all lengths, always the same.
func mingled(count int) []uint64 {
	x := uint64(88172645463325252)
	all := make([]uint64, count)
	for i := range all {
		x ^= x << 13
		x ^= x >> 7
		x ^= x << 17
		all[i] = x >> (32 + i%32)
	}
	return all
}

// beyond: numbers above 2^32: primes and others, and such as are small primes when bits are cut off.
func beyond() []uint64 {
	return []uint64{
		1<<32 + 1, 1<<32 + 2, 1<<32 + 3, 1<<32 + 7, 1<<32 + 15, 3 << 32, 1 << 33, 641 * 641 * 65537,
		1<<48 + 7, 1<<61 - 1, 1<<63 - 1, 1 << 63, 1<<63 + 7, top - 58, top - 1, top,
	}
}

// unprovable: numbers that have neither a Generator nor a Row.
func unprovable() []uint64 {
	all := append(beyond(), 65537, 65539, 65543, 1<<16+1<<8, 1<<17+7, 4294967291, 1<<32-1, 1<<32)
	for n := range uint64(api.MaxSmall + 1) {
		if n == 2 || !isPrime(n) {
			all = append(all, n)
		}
	}
	return all
}

// P5.1: all primes up to a number, rising; none below 2.
func TestPrimes(t *testing.T) {
	var want []int
	for upto := -3; upto <= 2000; upto++ {
		if upto >= 2 && isPrime(uint64(upto)) {
			want = append(want, upto)
		}
		if got := Primes(upto); !slices.Equal(got, want) {
			t.Fatalf("Primes(%d): %v, not %v", upto, got, want)
		}
	}
	for _, upto := range []int{math.MinInt, math.MinInt + 1, -1 << 32, -1, 0, 1} {
		if got := Primes(upto); len(got) != 0 {
			t.Errorf("Primes(%d): %v", upto, got)
		}
	}
	if got := Primes(2); !slices.Equal(got, []int{2}) {
		t.Errorf("Primes(2): %v", got)
	}
	if got := Primes(10); !slices.Equal(got, []int{2, 3, 5, 7}) {
		t.Errorf("Primes(10): %v", got)
	}
}

// P5.1: as far as MaxSmall, and no further.
func TestPrimesUpToMaxSmall(t *testing.T) {
	all := primesUpTo(api.MaxSmall)
	if len(all) != 6542 || all[len(all)-1] != 65521 {
		t.Fatalf("%d primes, the last %d", len(all), all[len(all)-1])
	}
	for _, upto := range []int{65521, 65522, 65535, 65536, 65537, 65538, 65543, 1 << 17, 1<<32 + 7, math.MaxInt - 1, math.MaxInt} {
		if got := Primes(upto); !slices.Equal(got, all) {
			t.Errorf("Primes(%d): %d of them", upto, len(got))
		}
	}
	if got := Primes(65520); !slices.Equal(got, all[:len(all)-1]) {
		t.Errorf("Primes(65520): %d of them", len(got))
	}
}

func expectFactors(t *testing.T, n uint64, want ...proof.Power) {
	t.Helper()
	if got := Factor(n); !slices.Equal(got, want) {
		t.Fatalf("Factor(%d): %v, not %v", n, got, want)
	}
}

// expectWhole: what Factor answers is primes, rising, from once on, that make n.
func expectWhole(t *testing.T, n uint64) {
	t.Helper()
	product, last := uint64(1), uint64(1)
	for _, power := range Factor(n) {
		if power.Q <= last || !isPrime(power.Q) || power.E < 1 {
			t.Fatalf("Factor(%d): %v", n, Factor(n))
		}
		last = power.Q
		for range power.E {
			product *= power.Q
		}
	}
	if product != n {
		t.Fatalf("Factor(%d): %v, which make %d", n, Factor(n), product)
	}
}

// P5.1: the prime factors of numbers, rising, each as often as it is one.
func TestFactor(t *testing.T) {
	for n := uint64(1); n <= api.MaxSmall+100; n++ {
		expectWhole(t, n)
	}
	for _, n := range mingled(3000) {
		if n >= 1 {
			expectWhole(t, n)
		}
	}
	for n := uint64(1<<32 - 300); n <= 1<<32; n++ {
		expectWhole(t, n)
	}
}

// P5.1: primes and their powers, of all small primes, up to 2^32.
func TestFactorOfPowers(t *testing.T) {
	for _, p := range primesUpTo(api.MaxSmall) {
		q := uint64(p)
		for n, e := q, 1; n <= 1<<32; n, e = n*q, e+1 {
			expectFactors(t, n, proof.Power{Q: q, E: e})
		}
	}
	for _, p := range []uint64{65537, 65539, 1<<31 - 1, 4294967279, 4294967291} {
		expectFactors(t, p, proof.Power{Q: p, E: 1})
	}
}

// P5.1: the edges: what has none, the greatest that has, and factors that are great, or many.
func TestFactorEdges(t *testing.T) {
	for _, n := range append(beyond(), 0, 1) {
		expectFactors(t, n)
	}
	expectFactors(t, 2, proof.Power{Q: 2, E: 1})
	expectFactors(t, 3, proof.Power{Q: 3, E: 1})
	expectFactors(t, 4, proof.Power{Q: 2, E: 2})
	expectFactors(t, 1<<32, proof.Power{Q: 2, E: 32})
	expectFactors(t, 1<<32-1, proof.Power{Q: 3, E: 1}, proof.Power{Q: 5, E: 1}, proof.Power{Q: 17, E: 1}, proof.Power{Q: 257, E: 1}, proof.Power{Q: 65537, E: 1})
	expectFactors(t, 65521*65537, proof.Power{Q: 65521, E: 1}, proof.Power{Q: 65537, E: 1})
	expectFactors(t, 2*2147483647, proof.Power{Q: 2, E: 1}, proof.Power{Q: 2147483647, E: 1})
	expectFactors(t, 360, proof.Power{Q: 2, E: 3}, proof.Power{Q: 3, E: 2}, proof.Power{Q: 5, E: 1})
	if got := Factor(2 * 3 * 5 * 7 * 11 * 13 * 17 * 19 * 23); len(got) != 9 || got[8].Q != 23 {
		t.Errorf("nine factors: %v", got)
	}
}

// P5.1: what is a prime, of small numbers, of mingled ones, and at 2^32; nothing above that is one.
func TestPrime(t *testing.T) {
	numbers := mingled(3000)
	for n := range uint64(api.MaxSmall + 1000) {
		numbers = append(numbers, n)
	}
	for n := uint64(1<<32 - 1000); n <= 1<<32; n++ {
		numbers = append(numbers, n)
	}
	for _, n := range numbers {
		if Prime(n) != isPrime(n) {
			t.Fatalf("Prime(%d): %v", n, Prime(n))
		}
	}
	if Prime(0) || Prime(1) || !Prime(2) || Prime(1<<32) || !Prime(4294967291) || Prime(65521*65521) {
		t.Error("Prime at the edges")
	}
	for _, n := range beyond() {
		if Prime(n) {
			t.Errorf("Prime(%d)", n)
		}
	}
}

// reachesAll: whether the powers of g are, modulo p, all numbers from 1 to p - 1.
func reachesAll(g, p uint32) bool {
	met := make([]bool, p)
	count := uint32(0)
	for power := uint32(1); !met[power]; power = uint32(uint64(power) * uint64(g) % uint64(p)) {
		met[power] = true
		count++
	}
	return count == p-1 && !met[0]
}

// P5.1: of every odd prime up to MaxSmall the least number whose powers are all.
func TestGenerator(t *testing.T) {
	for _, p := range oddPrimes() {
		want := uint64(2)
		for !reachesAll(uint32(want), uint32(p)) {
			want++
		}
		if got := Generator(p); got != want {
			t.Fatalf("Generator(%d): %d, not %d", p, got, want)
		}
	}
	// Written out: small ones, the greatest that there is (38), and that of the greatest prime.
	for p, want := range map[uint64]uint64{3: 2, 5: 2, 7: 3, 23: 5, 41: 6, 71: 7, 191: 19, 409: 21, 5881: 31, 36721: 37, 55441: 38, 65521: 17} {
		if got := Generator(p); got != want {
			t.Errorf("Generator(%d): %d, not %d", p, got, want)
		}
	}
}

// P5.1: 0 of all that are no odd primes up to MaxSmall.
func TestGeneratorOfOthers(t *testing.T) {
	for _, n := range unprovable() {
		if got := Generator(n); got != 0 {
			t.Fatalf("Generator(%d): %d", n, got)
		}
	}
}

// oddFactors: the odd primes that divide n, found by trying all numbers.
func oddFactors(n uint64) []uint64 {
	var all []uint64
	for n%2 == 0 {
		n /= 2
	}
	for q := uint64(3); n > 1; q += 2 {
		if n%q == 0 {
			all = append(all, q)
		}
		for n%q == 0 {
			n /= q
		}
	}
	return all
}

// leanedOn: p, and all odd primes that its row must hold, rising: asked for from the greatest down, since each is less than what leans on it.
func leanedOn(p uint64) []uint64 {
	asked := make([]bool, p+1)
	asked[p] = true
	var all []uint64
	for q := p; q >= 3; q-- {
		if !asked[q] {
			continue
		}
		all = append(all, q)
		for _, factor := range oddFactors(q - 1) {
			asked[factor] = true
		}
	}
	slices.Reverse(all)
	return all
}

// P5.1: of every odd prime up to MaxSmall the entries that it needs, and no others.
func TestRow(t *testing.T) {
	for _, p := range oddPrimes() {
		row, err := Row(p)
		if err != api.OK {
			t.Fatalf("Row(%d): %d", p, err)
		}
		var want []proof.Entry
		for _, q := range leanedOn(p) {
			want = append(want, proof.Entry{P: q, G: Generator(q), Factors: Factor(q - 1)})
		}
		if !reflect.DeepEqual(row, want) {
			t.Fatalf("Row(%d): %v, not %v", p, row, want)
		}
	}
}

// P5.1: rows that are written out: one that leans on itself alone, and one that meets a prime by two ways.
func TestRowsWrittenOut(t *testing.T) {
	three := proof.Entry{P: 3, G: 2, Factors: []proof.Power{{Q: 2, E: 1}}}
	five := proof.Entry{P: 5, G: 2, Factors: []proof.Power{{Q: 2, E: 2}}}
	seven := proof.Entry{P: 7, G: 3, Factors: []proof.Power{{Q: 2, E: 1}, {Q: 3, E: 1}}}
	for p, want := range map[uint64][]proof.Entry{
		3:   {three},
		5:   {five},
		7:   {three, seven},
		17:  {{P: 17, G: 3, Factors: []proof.Power{{Q: 2, E: 4}}}},
		43:  {three, seven, {P: 43, G: 3, Factors: []proof.Power{{Q: 2, E: 1}, {Q: 3, E: 1}, {Q: 7, E: 1}}}},
		71:  {three, five, seven, {P: 71, G: 7, Factors: []proof.Power{{Q: 2, E: 1}, {Q: 5, E: 1}, {Q: 7, E: 1}}}},
		257: {{P: 257, G: 3, Factors: []proof.Power{{Q: 2, E: 8}}}},
	} {
		if row, err := Row(p); err != api.OK || !reflect.DeepEqual(row, want) {
			t.Errorf("Row(%d): %v, %d", p, row, err)
		}
	}
}

// P5.1: ErrArg, and no entries, of all that are no odd primes up to MaxSmall.
func TestRowOfOthers(t *testing.T) {
	for _, n := range unprovable() {
		if row, err := Row(n); len(row) != 0 || err != api.ErrArg {
			t.Fatalf("Row(%d): %v, %d", n, row, err)
		}
	}
}

// P5.2: every row is right, and its last entry is p's.
func TestRowIsRight(t *testing.T) {
	for _, p := range oddPrimes() {
		row, _ := Row(p)
		if at, err := proof.Check(row); at != 0 || err != api.OK {
			t.Fatalf("Row(%d): Check answers %d, %d", p, at, err)
		}
		if len(row) == 0 || row[len(row)-1].P != p {
			t.Fatalf("Row(%d) ends otherwise: %v", p, row)
		}
		if entry, ok := proof.Claim(row, p); !ok || entry.G != Generator(p) {
			t.Fatalf("Row(%d) doesn't claim it: %v", p, entry)
		}
	}
}

// spoil: writes over a list, spare room included.
func spoil[T any](list []T, with T) {
	list = list[:cap(list)]
	for i := range list {
		list[i] = with
	}
}

// P5.1: what is answered is new memory each time.
func TestAnswersAreNew(t *testing.T) {
	spoil(Primes(100), -1)
	if got := Primes(100); !slices.Equal(got, primesUpTo(100)) {
		t.Errorf("Primes behind a change: %v", got)
	}
	spoil(Factor(12), proof.Power{Q: 9, E: 9})
	expectFactors(t, 12, proof.Power{Q: 2, E: 2}, proof.Power{Q: 3, E: 1})
	row, _ := Row(20147)
	want, _ := Row(20147)
	if len(row) != 10 {
		t.Fatalf("Row(20147): %v", row)
	}
	for at := range row {
		spoil(row[at].Factors, proof.Power{Q: 9, E: 9})
		for next := at + 1; next < len(row); next++ {
			if !reflect.DeepEqual(row[next], want[next]) {
				t.Fatalf("entries %d and %d share memory", at, next)
			}
		}
	}
	spoil(row, proof.Entry{})
	if again, _ := Row(20147); !reflect.DeepEqual(again, want) {
		t.Errorf("Row behind a change: %v", again)
	}
}

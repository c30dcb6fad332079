package rader

import (
	"math"
	"math/big"
	"math/bits"
	"slices"
	"strconv"
	"sync"
	"testing"

	"epicycle/api"
	"epicycle/dft"
	"epicycle/field"
	"epicycle/proof"
	"epicycle/sieve"
)

const (
	// most is MaxLen, as the chapter writes it; greatest is the greatest prime up to it, and next the first one above.
	most     = 1024
	greatest = 1021
	next     = 1031
	top      = math.MaxUint64
)

// Primes whose p - 1 is made of small ones: by many odd ones, but by 2 only
// once, close below 2^63, so that nothing can be filled up; by 1025, and by next, which are too long.
const (
	odd    = 9223372036854774559
	beyond = 6*1025 + 1
	above  = 5*4096*next + 1
)

func small(t *testing.T, p uint64) *field.Field {
	t.Helper()
	f, err := field.Small(p)
	if err != api.OK {
		t.Fatalf("Small(%d): %d", p, err)
	}
	return f
}

func known(t *testing.T, i int) *field.Field {
	t.Helper()
	f, err := field.Known(i)
	if err != api.OK {
		t.Fatalf("Known(%d): %d", i, err)
	}
	return f
}

// factored: the factors of a number that is made of small primes.
func factored(n uint64) []proof.Power {
	var all []proof.Power
	for q := uint64(2); n > 1; q++ {
		count := 0
		for ; n%q == 0; n /= q {
			count++
		}
		if count > 0 {
			all = append(all, proof.Power{Q: q, E: count})
		}
	}
	return all
}

// proved: the field of a prime, by a number from some one on whose powers are all.
func proved(t *testing.T, p, from uint64) *field.Field {
	t.Helper()
	entry := proof.Entry{P: p, G: from, Factors: factored(p - 1)}
	for slices.ContainsFunc(entry.Factors, func(factor proof.Power) bool { return power(entry.G, (p-1)/factor.Q, p) == 1 }) {
		entry.G++
	}
	var row []proof.Entry
	for _, factor := range entry.Factors[1:] {
		ahead, _ := sieve.Row(factor.Q)
		row = append(row, ahead...)
	}
	slices.SortFunc(row, func(a, b proof.Entry) int { return bigOf(a.P).Cmp(bigOf(b.P)) })
	row = slices.CompactFunc(row, func(a, b proof.Entry) bool { return a.P == b.P })
	f, err := field.New(append(row, entry), p)
	if err != api.OK {
		t.Fatalf("New of %d: %d", p, err)
	}
	return f
}

// leastPrime: the least prime that leaves 1 by a length and its Pad.
func leastPrime(n int) uint64 {
	step := uint64(n * padOf(n))
	p := step + 1
	for !bigOf(p).ProbablyPrime(0) {
		p += step
	}
	return p
}

// greatPrime: a prime above 2^62 that leaves 1 by a length and its Pad, whose p - 1 has but small factors.
func greatPrime(n int) uint64 {
	for odds := uint64(n); ; odds *= 3 {
		for fives := odds; fives < 1<<51; fives *= 5 {
			p := fives<<bits.LeadingZeros64(fives<<1) + 1
			if bigOf(p).ProbablyPrime(0) {
				return p
			}
		}
	}
}

// crowd: a prime which many odd ones fit in.
func crowd() uint64 {
	const step = 2048 * 3 * 5 * 7 * 11 * 13 * 17 * 509 * 1019 * greatest
	p := uint64(step + 1)
	for !bigOf(p).ProbablyPrime(0) {
		p += step
	}
	return p
}

// fields: the known ones, small ones, some by numbers that aren't the least, great ones, and of each odd prime up to MaxLen two that it fits in.
func fields(t *testing.T) []*field.Field {
	t.Helper()
	all := fewFields(t)
	for _, n := range oddPrimes() {
		all = append(all, proved(t, leastPrime(n), 2), proved(t, greatPrime(n), 2))
	}
	return all
}

// fewFields: the same without those of each odd prime.
func fewFields(t *testing.T) []*field.Field {
	t.Helper()
	var all []*field.Field
	for i := range 6 {
		all = append(all, known(t, i))
	}
	for _, p := range []uint64{3, 5, 7, 11, 13, 17, 19, 29, 31, 37, 41, 43, 61, 73, 97, 109, 113, 211, 241, 257, 337, 353, 769, 911, 1009, 1021, 12289, 13441, 40961, 61441, 65521} {
		all = append(all, small(t, p))
	}
	all = append(all, proved(t, 13, 7), proved(t, 37, 5), proved(t, 41, 13), proved(t, 337, 100), proved(t, 65537, 2))
	return append(all, proved(t, odd, 2), proved(t, beyond, 2), proved(t, above, 2), proved(t, crowd(), 2))
}

// ofEach: a test of each field, all at a time.
func ofEach(t *testing.T, test func(t *testing.T, f *field.Field)) {
	t.Parallel()
	for _, f := range fields(t) {
		t.Run(strconv.FormatUint(f.P(), 10), func(t *testing.T) {
			t.Parallel()
			test(t, f)
		})
	}
}

func bigOf(a uint64) *big.Int { return new(big.Int).SetUint64(a) }

func power(x, e, p uint64) uint64 {
	return new(big.Int).Exp(bigOf(x), bigOf(e), bigOf(p)).Uint64()
}

// against: what makes 1 with a number, modulo p.
func against(x, p uint64) uint64 {
	return new(big.Int).ModInverse(bigOf(x), bigOf(p)).Uint64()
}

// times: a product modulo p, by a division.
func times(x, y, p uint64) uint64 {
	high, low := bits.Mul64(x, y)
	return bits.Rem64(high, low, p)
}

// plus: a sum modulo p, of residues.
func plus(x, y, p uint64) uint64 {
	sum, carry := bits.Add64(x, y, 0)
	return bits.Rem64(carry, sum, p)
}

// rootOf: the number whose powers the sums have, as the chapter of layer 11 says it.
func rootOf(f *field.Field, n int, inverse bool) uint64 {
	p := f.P()
	root := power(f.G(), (p-1)/uint64(n), p)
	if inverse {
		return against(root, p)
	}
	return root
}

// sums: the transform, or the inverse one, as the chapter of layer 11 says it.
func sums(f *field.Field, list []uint64, inverse bool) []uint64 {
	p, n := f.P(), len(list)
	root, by, scale := rootOf(f, n, inverse), uint64(1), uint64(1)
	if inverse {
		scale = against(uint64(n), p)
	}
	all := make([]uint64, n)
	for i := range all {
		// From the last one back, each time by one power more.
		for _, x := range slices.Backward(list) {
			all[i] = plus(times(all[i], by, p), x, p)
		}
		all[i] = times(all[i], scale, p)
		by = times(by, root, p)
	}
	return all
}

// isOdd: whether a number is an odd prime up to MaxLen, by trials of all that may divide it.
func isOdd(n int) bool {
	if n < 3 || n > most {
		return false
	}
	for d := 2; d < n; d++ {
		if n%d == 0 {
			return false
		}
	}
	return true
}

// oddPrimes: all odd primes up to MaxLen.
var oddPrimes = sync.OnceValue(func() []int {
	var all []int
	for n := range most + 1 {
		if isOdd(n) {
			all = append(all, n)
		}
	}
	return all
})

// padOf: the Pad of an odd prime up to MaxLen, as the chapters say it.
func padOf(n int) int {
	size := 1
	for size < 2*n-3 {
		size *= 2
	}
	return size
}

// leastGenerator: the least number of which no power ahead of the one by n - 1 is 1, modulo n.
func leastGenerator(n int) int {
	for g := 2; ; g++ {
		order := 1
		for x := g; x != 1; x = x * g % n {
			order++
		}
		if order == n-1 {
			return g
		}
	}
}

// isFit: whether a length fits in the field of p, as the chapter says it.
func isFit(p uint64, n int) bool {
	_, found := slices.BinarySearch(oddPrimes(), n)
	return found && (p-1)%uint64(padOf(n)) == 0
}

// lengths: the numbers that fit in the field of p, and divide p - 1.
func lengths(p uint64) []int {
	var all []int
	for _, n := range oddPrimes() {
		if (p-1)%uint64(n) == 0 && isFit(p, n) {
			all = append(all, n)
		}
	}
	return all
}

// mingled: so many residues, of each seed others.
func mingled(p uint64, n int, seed uint64) []uint64 {
	x := 88172645463325252 + seed
	all := make([]uint64, n)
	for i := range all {
		x ^= x << 13
		x ^= x >> 7
		x ^= x << 17
		all[i] = x % p
	}
	return all
}

// alone: so many noughts, and one number among them.
func alone(n, at int, x uint64) []uint64 {
	all := make([]uint64, n)
	all[at] = x
	return all
}

// lists: of residues, mingled ones, the least, the greatest, and one alone.
func lists(p uint64, n int) [][]uint64 {
	all := [][]uint64{mingled(p, n, 1)}
	if n <= 128 {
		all = append(all, mingled(p, n, 2), make([]uint64, n), slices.Repeat([]uint64{1}, n), slices.Repeat([]uint64{p - 1}, n))
		all = append(all, alone(n, 0, p-1), alone(n, n/2, 1), alone(n, n-1, p-1))
	}
	return all
}

// many: other lists of residues, fewer of long ones.
func many(p uint64, n int) [][]uint64 {
	all := [][]uint64{mingled(p, n, 3)}
	if n <= 128 {
		all = append(all, mingled(p, n, 20), alone(n, n-1, p-1))
	}
	return all
}

// seeAll: hands over all lists of so many residues.
func seeAll(p uint64, n int, see func(list []uint64)) {
	list := make([]uint64, n)
	var lay func(i int)
	lay = func(i int) {
		if i == n {
			see(list)
			return
		}
		for x := range p {
			list[i] = x
			lay(i + 1)
		}
	}
	lay(0)
}

// noResidues: numbers that aren't residues.
func noResidues(p uint64) []uint64 {
	return []uint64{p, p + 1, 2*p - 1, 2 * p, 1 << 63, top / p * p, top - 1, top}
}

// spoil: writes over all of a list, its spare room too.
func spoil(list []uint64) {
	list = list[:cap(list)]
	for i := range list {
		list[i] = 99
	}
}

// run: what Run answers of a list that it must transform.
func run(t *testing.T, f *field.Field, list []uint64, inverse bool) []uint64 {
	t.Helper()
	got, err := Run(f, list, inverse)
	if len(got) != len(list) || err != api.OK {
		t.Fatalf("Run of %d, and %d numbers, %v: %d numbers, %d", f.P(), len(list), inverse, len(got), err)
	}
	return got
}

// layer11: what layer 11 answers of a list that it must transform.
func layer11(t *testing.T, f *field.Field, list []uint64, inverse bool) []uint64 {
	t.Helper()
	got, err := dft.Run(f, list, inverse)
	if len(got) != len(list) || err != api.OK {
		t.Fatalf("dft.Run of %d, and %d numbers, %v: %d numbers, %d", f.P(), len(list), inverse, len(got), err)
	}
	return got
}

func expectSame(t *testing.T, name string, f *field.Field, got, want []uint64) {
	t.Helper()
	if !slices.Equal(got, want) {
		t.Fatalf("%s of %d, and %d numbers: from %v on, not %v", name, f.P(), len(want), got[:min(8, len(got))], want[:min(8, len(want))])
	}
}

// expectSums: Run answers the sums, forward and inverse.
func expectSums(t *testing.T, f *field.Field, list []uint64) {
	t.Helper()
	expectSame(t, "Run", f, run(t, f, list, false), sums(f, list, false))
	expectSame(t, "inverse Run", f, run(t, f, list, true), sums(f, list, true))
}

// expectAsLayer11: Run answers what layer 11 does, forward and inverse.
func expectAsLayer11(t *testing.T, f *field.Field, list []uint64) {
	t.Helper()
	expectSame(t, "Run as dft.Run", f, run(t, f, list, false), layer11(t, f, list, false))
	expectSame(t, "inverse Run as dft.Run", f, run(t, f, list, true), layer11(t, f, list, true))
}

// expectThereAndBack: both transforms, one behind the other, whichever is first, are the list.
func expectThereAndBack(t *testing.T, f *field.Field, list []uint64) {
	t.Helper()
	expectSame(t, "there and back", f, run(t, f, run(t, f, list, false), true), list)
	expectSame(t, "back and there", f, run(t, f, run(t, f, list, true), false), list)
}

// expectRefused: forward and inverse Run answers an error, and nothing beside it.
func expectRefused(t *testing.T, f *field.Field, list []uint64, want api.Errno) {
	t.Helper()
	for _, inverse := range []bool{false, true} {
		if got, err := Run(f, list, inverse); len(got) != 0 || err != want {
			t.Fatalf("Run of %d, and %d numbers, %v: %d numbers, %d, not %d", f.P(), len(list), inverse, len(got), err, want)
		}
	}
}

// expectPad: what Pad answers.
func expectPad(t *testing.T, n, want int) {
	t.Helper()
	if got := Pad(n); got != want {
		t.Fatalf("Pad(%d): %d, not %d", n, got, want)
	}
}

// expectFits: what Fits answers.
func expectFits(t *testing.T, f *field.Field, n int, want bool) {
	t.Helper()
	if got := Fits(f, n); got != want {
		t.Fatalf("Fits of %d, and %d: %v", f.P(), n, got)
	}
}

// expectNoWalk: Walk answers none, forward and back.
func expectNoWalk(t *testing.T, n int) {
	t.Helper()
	if there, back := Walk(n, false), Walk(n, true); len(there) != 0 || len(back) != 0 {
		t.Fatalf("Walk of %d: %d and %d numbers, not none", n, len(there), len(back))
	}
}

// strange: numbers that are no list's length.
func strange() []int {
	return []int{0, -1, -2, -3, -5, -7, -1021, -1024, -1 << 32, -1<<32 + 3, -1 << 62, math.MinInt, math.MinInt + 1, math.MinInt + 2, math.MinInt + 3, math.MinInt + 7}
}

// great: very great numbers, some of them primes, and some that leave a small odd prime by a power of two.
func great() []int {
	return []int{1<<31 - 1, 1 << 31, 1<<31 + 1, 1<<31 + 2, 1<<32 - 5, 1 << 32, 1<<32 + 3, 1<<32 + 15, 1<<40 + 7, 1 << 62, 1<<62 + 1, 1<<62 + 3, 1<<62 + 5, 1<<61 - 1, 1<<61 + 7, 1<<63 - 25, math.MaxInt - 2, math.MaxInt - 1, math.MaxInt}
}

// P16.1: Pad of the chapter's examples, of the least odd primes and the greatest, and of those around powers of two.
func TestPadOfOddPrimes(t *testing.T) {
	for n, want := range map[int]int{
		3: 4, 5: 8, 7: 16, 11: 32, 13: 32, 17: 32, 19: 64, 29: 64, 31: 64, 37: 128, 61: 128, 67: 256, 127: 256, 131: 512, 251: 512, 257: 512, 263: 1024,
		509: 1024, 521: 2048, 719: 2048, 997: 2048, 1009: 2048, 1013: 2048, 1019: 2048, 1021: 2048,
	} {
		expectPad(t, n, want)
	}
}

// P16.1: Pad of 2, of 1, of 0 and below, of odd numbers that are no primes, of even ones, of MaxLen and above, and of very great numbers: 0.
func TestPadOfOthers(t *testing.T) {
	for _, n := range []int{2, 1, 4, 6, 8, 9, 10, 15, 21, 25, 27, 33, 35, 49, 77, 121, 169, 341, 561, 841, 961, 989, 1001, 1007, 1022, 1023, 1024, 1025, 1026, 1027, 1031, 1033, 1039, 2039, 2047, 2053, 4093, 65521, 65537} {
		expectPad(t, n, 0)
	}
	for _, n := range append(great(), strange()...) {
		expectPad(t, n, 0)
	}
}

// P16.1: Pad of all numbers around those up to MaxLen.
func TestPadOfAll(t *testing.T) {
	for n := -3 * most; n <= 5*most; n++ {
		want := 0
		if isOdd(n) {
			want = padOf(n)
		}
		expectPad(t, n, want)
	}
}

// P16.1: Fits of a nil field: false, whatever the length.
func TestFitsOfNilField(t *testing.T) {
	for n := -2 * most; n <= 2*most; n++ {
		if Fits(nil, n) {
			t.Fatalf("Fits of a nil field, and %d", n)
		}
	}
	for _, n := range append(great(), strange()...) {
		if Fits(nil, n) {
			t.Fatalf("Fits of a nil field, and %d", n)
		}
	}
}

// P16.1: Fits of primes whose Pad divides p - 1, whether or not they do so themselves, of such whose Pad doesn't, and of what is no odd prime up to MaxLen, though it divides p - 1.
func TestFits(t *testing.T) {
	for _, c := range []struct {
		p       uint64
		yes, no []int
	}{
		{3, nil, []int{1, 2, 3, 5, 7}}, {5, []int{3}, []int{1, 2, 4, 5, 7}}, {7, nil, []int{1, 2, 3, 5, 6, 7}}, {11, nil, []int{2, 3, 5, 10, 11}}, {13, []int{3}, []int{1, 2, 4, 5, 6, 12, 13}},
		{17, []int{3, 5, 7}, []int{1, 2, 4, 8, 9, 11, 13, 16, 17}}, {31, nil, []int{3, 5, 15}}, {41, []int{3, 5}, []int{2, 4, 7, 8, 10, 40, 41}}, {97, []int{3, 5, 7, 11, 13, 17}, []int{2, 9, 15, 19, 96, 97}},
		{113, []int{3, 5, 7}, []int{2, 4, 9, 11, 14, 56}}, {257, []int{3, 61, 67, 127}, []int{2, 4, 9, 121, 131, 251, 256, 257}}, {1009, []int{3, 5, 7}, []int{9, 21, 63, 11, 1009}}, {12289, []int{3, 1009, 1019, 1021}, []int{2, 9, 1023, 1024, 1025, 1031, 12289}},
		{65537, []int{3, 509, 521, 1021}, []int{1, 2, 1024, 1031, 2048, 65536, 65537}},
	} {
		f := small(t, min(c.p, 65521))
		if c.p > 65521 {
			f = proved(t, c.p, 2)
		}
		for _, n := range c.yes {
			expectFits(t, f, n, true)
		}
		for _, n := range c.no {
			expectFits(t, f, n, false)
		}
	}
	for _, n := range []int{1031, 1033, 2 * 1031, 3 * 1031, 1025, 2047, 4096} {
		expectFits(t, proved(t, above, 2), n, false)
	}
}

// P16.1: Fits of all fields, and all numbers around those up to MaxLen, and of very great ones, and of 0 and below.
func TestFitsOfAll(t *testing.T) {
	ofEach(t, func(t *testing.T, f *field.Field) {
		for n := -10; n <= 2*most+10; n++ {
			expectFits(t, f, n, isFit(f.P(), n))
		}
		for _, n := range append(great(), strange()...) {
			expectFits(t, f, n, false)
		}
	})
}

// P16.1: Walk of the chapter's examples, and some more that are reckoned by hand.
func TestWalk(t *testing.T) {
	for _, c := range []struct{ there, back []int }{
		{[]int{1, 2}, []int{1, 2}},
		{[]int{1, 2, 4, 3}, []int{1, 3, 4, 2}},
		{[]int{1, 3, 2, 6, 4, 5}, []int{1, 5, 4, 6, 2, 3}},
		{[]int{1, 2, 4, 8, 5, 10, 9, 7, 3, 6}, []int{1, 6, 3, 7, 9, 10, 5, 8, 4, 2}},
		{[]int{1, 2, 4, 8, 3, 6, 12, 11, 9, 5, 10, 7}, []int{1, 7, 10, 5, 9, 11, 12, 6, 3, 8, 4, 2}},
		{[]int{1, 3, 9, 10, 13, 5, 15, 11, 16, 14, 8, 7, 4, 12, 2, 6}, []int{1, 6, 2, 12, 4, 7, 8, 14, 16, 11, 15, 5, 13, 10, 9, 3}},
	} {
		n := len(c.there) + 1
		if there, back := Walk(n, false), Walk(n, true); !slices.Equal(there, c.there) || !slices.Equal(back, c.back) {
			t.Fatalf("Walk of %d: %v, %v", n, there, back)
		}
	}
}

// P16.1: Walk of all odd primes up to MaxLen: the powers of the least generator, which layer 5 answers too, or of what makes 1 with it.
func TestWalkOfAll(t *testing.T) {
	for _, n := range oddPrimes() {
		g := leastGenerator(n)
		if g != int(sieve.Generator(uint64(n))) {
			t.Fatalf("the generator of %d isn't %d", n, g)
		}
		for _, back := range []bool{false, true} {
			by := uint64(g)
			if back {
				by = against(by, uint64(n))
			}
			walk := Walk(n, back)
			if len(walk) != n-1 {
				t.Fatalf("Walk of %d, %v: %d numbers", n, back, len(walk))
			}
			for i, x := range walk {
				if want := power(by, uint64(i), uint64(n)); x != int(want) {
					t.Fatalf("Walk of %d, %v, at %d: %d, not %d", n, back, i, x, want)
				}
			}
		}
	}
}

// P16.1: Walk of all that is no odd prime up to MaxLen: none.
func TestNoWalk(t *testing.T) {
	for n := -3 * most; n <= 5*most; n++ {
		if !isOdd(n) {
			expectNoWalk(t, n)
		}
	}
	for _, n := range append([]int{2, 65521, 65537}, append(great(), strange()...)...) {
		expectNoWalk(t, n)
	}
}

// P16.2: a Walk has each number from 1 to n - 1 once, forward and back.
func TestEachOnce(t *testing.T) {
	for _, n := range oddPrimes() {
		for _, back := range []bool{false, true} {
			met := make([]int, n-1)
			for _, x := range Walk(n, back) {
				if x < 1 || x >= n {
					t.Fatalf("Walk of %d, %v: %d", n, back, x)
				}
				met[x-1]++
			}
			if slices.Max(met) != 1 || slices.Min(met) != 1 {
				t.Fatalf("Walk of %d, %v: %v", n, back, met)
			}
		}
	}
}

// P16.2: the other Walk at the same place makes 1 with a number.
func TestBothMakeOne(t *testing.T) {
	for _, n := range oddPrimes() {
		there, back := Walk(n, false), Walk(n, true)
		if len(there) != n-1 || len(back) != n-1 {
			t.Fatalf("Walk of %d: %d and %d numbers", n, len(there), len(back))
		}
		for i, x := range there {
			if x*back[i]%n != 1 {
				t.Fatalf("Walk of %d, at %d: %d and %d", n, i, x, back[i])
			}
		}
	}
}

// P16.1: what Walk answers is new memory each time.
func TestWalksAreNewMemory(t *testing.T) {
	for _, n := range oddPrimes() {
		for _, back := range []bool{false, true} {
			first, second := Walk(n, back), Walk(n, back)
			same := slices.Clone(second)
			for i := range first[:cap(first)] {
				first[:cap(first)][i] = 99
			}
			if !slices.Equal(second, same) || !slices.Equal(Walk(n, back), same) {
				t.Fatalf("Walk of %d, %v: %v", n, back, second)
			}
		}
	}
}

// P16.1: transforms that are reckoned by hand.
func TestByHand(t *testing.T) {
	for _, c := range []struct {
		f         *field.Field
		list, sum []uint64
	}{
		// 3 is the root of the order 3 modulo 13, 26 modulo 37; 10 that of the order 5 modulo 41.
		{small(t, 13), []uint64{0, 0, 0}, []uint64{0, 0, 0}},
		{small(t, 13), []uint64{1, 0, 0}, []uint64{1, 1, 1}},
		{small(t, 13), []uint64{0, 1, 0}, []uint64{1, 3, 9}},
		{small(t, 13), []uint64{0, 0, 1}, []uint64{1, 9, 3}},
		{small(t, 13), []uint64{1, 1, 1}, []uint64{3, 0, 0}},
		{small(t, 13), []uint64{1, 2, 3}, []uint64{6, 8, 2}},
		{small(t, 37), []uint64{0, 1, 0}, []uint64{1, 26, 10}},
		{small(t, 41), []uint64{0, 1, 0, 0, 0}, []uint64{1, 10, 18, 16, 37}},
		{small(t, 41), []uint64{1, 1, 1, 1, 1}, []uint64{5, 0, 0, 0, 0}},
		// By the powers of 7 instead of those of 2.
		{proved(t, 13, 7), []uint64{0, 1, 0}, []uint64{1, 9, 3}},
	} {
		expectSame(t, "Run", c.f, run(t, c.f, c.list, false), c.sum)
		expectSame(t, "inverse Run", c.f, run(t, c.f, c.sum, true), c.list)
	}
}

// P16.1: of all fields, and all lengths that fit in them, the sums, forward and inverse.
func TestSums(t *testing.T) {
	ofEach(t, func(t *testing.T, f *field.Field) {
		for _, n := range lengths(f.P()) {
			for _, list := range lists(f.P(), n) {
				expectSums(t, f, list)
			}
		}
	})
}

// P16.1: among these fields there are such with all odd primes up to MaxLen for lengths, in small fields and in great ones, and all known ones that a prime fits in.
func TestAllKindsAreMet(t *testing.T) {
	all := fields(t)
	met := map[int]int{}
	for _, f := range all {
		for _, n := range lengths(f.P()) {
			met[n]++
		}
	}
	for _, n := range oddPrimes() {
		if met[n] < 2 || !isFit(leastPrime(n), n) || !isFit(greatPrime(n), n) || greatPrime(n)>>62 != 1 {
			t.Fatalf("%d numbers are tested by %d fields", n, met[n])
		}
	}
	for _, c := range []struct {
		p       uint64
		lengths []int
	}{
		{4179340454199820289, []int{29}}, {1945555039024054273, []int{3}}, {180143985094819841, []int{5}}, {754974721, []int{3, 5}}, {469762049, []int{7}}, {167772161, []int{5}},
		{13, []int{3}}, {7, nil}, {31, nil}, {41, []int{5}}, {97, []int{3}}, {113, []int{7}}, {241, []int{3, 5}}, {337, []int{3, 7}}, {353, []int{11}}, {1009, []int{3, 7}}, {13441, []int{3, 5, 7}}, {odd, nil},
		{crowd(), []int{3, 5, 7, 11, 13, 17, 509, 1019, 1021}},
	} {
		if !slices.Equal(lengths(c.p), c.lengths) || !slices.ContainsFunc(all, func(f *field.Field) bool { return f.P() == c.p }) {
			t.Fatalf("%d: %v", c.p, lengths(c.p))
		}
	}
}

// P16.1: as layer 11 answers, of more lists.
func TestAsLayer11(t *testing.T) {
	ofEach(t, func(t *testing.T, f *field.Field) {
		for _, n := range lengths(f.P()) {
			for _, list := range many(f.P(), n) {
				expectAsLayer11(t, f, list)
			}
		}
	})
}

// P16.1: of the least primes that a length fits in, all lists that there are.
func TestAllLists(t *testing.T) {
	t.Parallel()
	for _, f := range []*field.Field{small(t, 13), small(t, 37), proved(t, 13, 7)} {
		seeAll(f.P(), 3, func(list []uint64) { expectSums(t, f, list) })
	}
}

// P16.1: of one 1 among noughts the transform is the root's powers, by as many steps as its place; wherever it is.
func TestOneAlone(t *testing.T) {
	ofEach(t, func(t *testing.T, f *field.Field) {
		for _, n := range lengths(f.P()) {
			// Of long lists, at some places.
			for at := 0; at < n; at += max(1, n/20) {
				expectPowers(t, f, n, at)
			}
			expectPowers(t, f, n, n-1)
		}
	})
}

// expectPowers: of one 1 among noughts Run answers powers, each of which is reckoned from the one ahead of it.
func expectPowers(t *testing.T, f *field.Field, n, at int) {
	t.Helper()
	p := f.P()
	for _, inverse := range []bool{false, true} {
		by := power(rootOf(f, n, inverse), uint64(at), p)
		x := uint64(1)
		if inverse {
			x = against(uint64(n), p)
		}
		want := make([]uint64, n)
		for i := range want {
			want[i] = x
			x = times(x, by, p)
		}
		expectSame(t, "Run", f, run(t, f, alone(n, at, 1), inverse), want)
	}
}

// P16.1: a list of just MaxLen is refused: ErrKind, if there is a root, else ErrOrder; ahead of ErrEntry.
func TestJustMaxLen(t *testing.T) {
	met := 0
	for _, f := range fields(t) {
		want := api.ErrOrder
		if (f.P()-1)%most == 0 {
			want = api.ErrKind
			met++
		}
		expectRefused(t, f, make([]uint64, most), want)
		expectRefused(t, f, slices.Repeat([]uint64{top}, most), want)
	}
	if met < 8 {
		t.Fatalf("only %d fields have roots of %d", met, most)
	}
}

// P16.1: a list of the greatest prime up to MaxLen is transformed, if it fits; it is refused by ErrOrder, unless it divides p - 1, and by ErrKind, if its Pad doesn't; ahead of ErrEntry.
func TestGreatestPrime(t *testing.T) {
	f := proved(t, crowd(), 2)
	expectSums(t, f, mingled(f.P(), greatest, 12))
	expectSums(t, f, slices.Repeat([]uint64{f.P() - 1}, greatest))
	expectRefused(t, f, alone(greatest, greatest-1, f.P()), api.ErrEntry)
	// Its Pad divides p - 1 in each of the known fields, but itself doesn't.
	expectFits(t, known(t, 0), greatest, true)
	expectRefused(t, known(t, 0), make([]uint64, greatest), api.ErrOrder)
	expectRefused(t, known(t, 0), slices.Repeat([]uint64{top}, greatest), api.ErrOrder)
	// 10 times 1021, and 1, is a prime, and p - 1 by 2 is odd.
	half := small(t, 10*greatest+1)
	expectRefused(t, half, make([]uint64, greatest), api.ErrKind)
	expectRefused(t, half, slices.Repeat([]uint64{top}, greatest), api.ErrKind)
}

// P16.1: lists of one number, and of two, are refused: ErrKind, ahead of ErrEntry.
func TestOneNumberAndTwo(t *testing.T) {
	for _, f := range fields(t) {
		for _, x := range []uint64{0, 1, f.P() - 1, f.P(), top} {
			expectRefused(t, f, []uint64{x}, api.ErrKind)
			expectRefused(t, f, []uint64{x, 0}, api.ErrKind)
			expectRefused(t, f, []uint64{1, x}, api.ErrKind)
		}
	}
}

// P16.1: ErrNil of a nil field, whatever the list, and ahead of all other errors.
func TestNilField(t *testing.T) {
	noughts, others := make([]uint64, 2*most+1), slices.Repeat([]uint64{top}, 2*most+1)
	for n := range noughts {
		expectRefused(t, nil, noughts[:n], api.ErrNil)
		expectRefused(t, nil, others[:n], api.ErrNil)
	}
	expectRefused(t, nil, nil, api.ErrNil)
}

// P16.1: ErrArg of an empty list.
func TestNothing(t *testing.T) {
	for _, f := range fields(t) {
		expectRefused(t, f, nil, api.ErrArg)
		expectRefused(t, f, []uint64{}, api.ErrArg)
		expectRefused(t, f, []uint64{1, top}[:0], api.ErrArg)
	}
}

// P16.1: ErrLong of more than MaxLen, of primes too, whether or not their number divides p - 1, and they are residues.
func TestLongLists(t *testing.T) {
	for _, f := range fields(t) {
		for _, n := range []int{most + 1, most + 2, next, 1033, 1049, 2*most - 1, 2 * most, 2053, 3 * most, 4 * most, 4*most + 1, 1 << 16, 1<<16 + 1} {
			expectRefused(t, f, make([]uint64, n), api.ErrLong)
		}
		expectRefused(t, f, slices.Repeat([]uint64{top}, next), api.ErrLong)
		expectRefused(t, f, slices.Repeat([]uint64{top}, most+1), api.ErrLong)
	}
	if !proved(t, beyond, 2).Divides(most+1) || !proved(t, above, 2).Divides(next) || !proved(t, above, 2).Divides(4096) || small(t, 7).Divides(next) {
		t.Fatal("the lengths are none of both kinds")
	}
}

// P16.1: of all lengths up to MaxLen, ErrOrder of those that don't divide p - 1, whether or not they fit, and ErrKind of those that do, unless they fit; both ahead of ErrEntry.
func TestOtherLengths(t *testing.T) {
	ofEach(t, func(t *testing.T, f *field.Field) {
		p := f.P()
		noughts, others := make([]uint64, most), slices.Repeat([]uint64{p}, most)
		for n := 1; n <= most; n++ {
			want := api.ErrKind
			if (p-1)%uint64(n) != 0 {
				want = api.ErrOrder
			} else if isFit(p, n) {
				continue
			}
			expectRefused(t, f, noughts[:n], want)
			expectRefused(t, f, others[:n], want)
		}
	})
}

// P16.1: of odd primes that divide p - 1 while their Pad doesn't, ErrKind; even if all that is missing is a factor of 2.
func TestPadDoesNotDivide(t *testing.T) {
	for _, c := range []struct {
		p uint64
		n int
	}{
		{7, 3}, {19, 3}, {31, 3}, {31, 5}, {11, 5}, {61, 5}, {29, 7}, {43, 7}, {71, 7}, {67, 11}, {23, 11}, {53, 13}, {1021, 17}, {911, 13}, {odd, 3}, {odd, 17}, {odd, 79}, {odd, 457}, {odd, 967},
	} {
		f := proved(t, c.p, 2)
		if (c.p-1)%uint64(c.n) != 0 {
			t.Fatalf("%d doesn't divide %d - 1", c.n, c.p)
		}
		expectRefused(t, f, make([]uint64, c.n), api.ErrKind)
		expectRefused(t, f, slices.Repeat([]uint64{c.p}, c.n), api.ErrKind)
	}
}

// P16.1: ErrEntry, if one is no residue, wherever it stands, at all lengths that fit.
func TestOthersThanResidues(t *testing.T) {
	ofEach(t, func(t *testing.T, f *field.Field) {
		for _, n := range lengths(f.P()) {
			for _, x := range noResidues(f.P()) {
				for _, at := range []int{0, 1, n / 2, n - 1} {
					expectRefused(t, f, alone(n, at, x), api.ErrEntry)
				}
			}
		}
	})
}

// P16.1: of several errors the one that the chapters name first, one by one.
func TestSeveralErrors(t *testing.T) {
	seven, thirteen := small(t, 7), small(t, 13)
	for _, c := range []struct {
		f    *field.Field
		list []uint64
		want api.Errno
	}{
		{nil, nil, api.ErrNil}, {nil, []uint64{99}, api.ErrNil}, {nil, []uint64{99, 0, 0}, api.ErrNil}, {nil, make([]uint64, 1025), api.ErrNil},
		{seven, nil, api.ErrArg}, {thirteen, nil, api.ErrArg}, {seven, slices.Repeat([]uint64{9}, 1025), api.ErrLong}, {seven, make([]uint64, 1031), api.ErrLong}, {thirteen, make([]uint64, 1026), api.ErrLong},
		{thirteen, make([]uint64, 5), api.ErrOrder}, {thirteen, make([]uint64, 8), api.ErrOrder}, {thirteen, []uint64{99, 0, 0, 0, 0}, api.ErrOrder}, {seven, make([]uint64, 1021), api.ErrOrder}, {small(t, 17), make([]uint64, 3), api.ErrOrder}, {small(t, 17), []uint64{99, 99, 99}, api.ErrOrder},
		{thirteen, make([]uint64, 4), api.ErrKind}, {thirteen, make([]uint64, 12), api.ErrKind}, {thirteen, []uint64{13}, api.ErrKind}, {thirteen, []uint64{13, 13}, api.ErrKind}, {thirteen, slices.Repeat([]uint64{top}, 6), api.ErrKind}, {seven, make([]uint64, 3), api.ErrKind}, {seven, []uint64{7, 7, 7}, api.ErrKind},
		{thirteen, []uint64{13, 0, 0}, api.ErrEntry}, {thirteen, []uint64{0, 0, top}, api.ErrEntry}, {small(t, 41), []uint64{0, 0, 41, 0, 0}, api.ErrEntry},
	} {
		expectRefused(t, c.f, c.list, c.want)
	}
}

// P16.1: a list that is handed in stays as it was, the room behind it too, whatever is answered.
func TestListsStay(t *testing.T) {
	for _, f := range []*field.Field{nil, small(t, 7), small(t, 13), small(t, 41), small(t, 113), known(t, 1), known(t, 3)} {
		for _, room := range [][]uint64{{1, 2, 3, 4, 0, 1, 2, 3, 4}, {4, 3, 2, 5, 1, 1, 1, 1, 1}, {top, 1, 1, 1, 1, 1, 1, 1, 1}} {
			same := slices.Clone(room)
			for n := range room {
				Run(f, room[:n], false)
				Run(f, room[:n], true)
				expectSame(t, "the list", small(t, 13), room, same)
			}
		}
	}
	f := proved(t, crowd(), 2)
	long := mingled(f.P(), 4*most, 5)
	same := slices.Clone(long)
	for _, n := range []int{1, 2, 3, 5, 17, 85, 509, 1019, greatest, most, most + 1, next, 2 * most} {
		Run(f, long[:n], false)
		Run(f, long[:n], true)
		expectSame(t, "the list", f, long, same)
	}
}

// P16.1: what is answered is new memory each time, and hangs on what is handed in alone.
func TestAnswersAreNewMemory(t *testing.T) {
	f, other := proved(t, crowd(), 2), small(t, 13441)
	for _, n := range lengths(f.P()) {
		list := mingled(13441, n, 6)
		same := slices.Clone(list)
		for _, inverse := range []bool{false, true} {
			first := run(t, f, list, inverse)
			want := slices.Clone(first)
			if slices.Contains(lengths(13441), n) {
				spoil(run(t, other, list, inverse))
			}
			second := run(t, f, list, inverse)
			expectSame(t, "the same again", f, second, want)
			spoil(first)
			expectSame(t, "the other answer", f, second, want)
			expectSame(t, "the list", f, list, same)
		}
	}
}

// P16.1: what is written into a list behind a call isn't seen in its answer, nor what is written into a Walk.
func TestListsAreNotKept(t *testing.T) {
	f := proved(t, crowd(), 2)
	for _, n := range lengths(f.P()) {
		list := mingled(f.P(), n, 7)
		want := [][]uint64{sums(f, list, false), sums(f, list, true)}
		for _, back := range []bool{false, true} {
			for i, walk := 0, Walk(n, back); i < len(walk); i++ {
				walk[i] = 0
			}
		}
		there, back := run(t, f, list, false), run(t, f, list, true)
		spoil(list)
		expectSame(t, "Run", f, there, want[0])
		expectSame(t, "inverse Run", f, back, want[1])
	}
}

// P16.1: there and back to the list, of all fields and lengths that fit, whichever way is first.
func TestThereAndBack(t *testing.T) {
	ofEach(t, func(t *testing.T, f *field.Field) {
		for _, n := range lengths(f.P()) {
			for seed := range uint64(2) {
				expectThereAndBack(t, f, mingled(f.P(), n, 8+seed))
			}
		}
	})
}

// P16.1: there by Run, and back by layer 11, or the other way round.
func TestThereAndBackWithLayer11(t *testing.T) {
	ofEach(t, func(t *testing.T, f *field.Field) {
		for _, n := range lengths(f.P()) {
			list := mingled(f.P(), n, 9)
			expectSame(t, "Run there, dft.Run back", f, layer11(t, f, run(t, f, list, false), true), list)
			expectSame(t, "dft.Run there, Run back", f, run(t, f, layer11(t, f, list, false), true), list)
		}
	})
}

package mixed

import (
	"math"
	"math/big"
	"math/bits"
	"slices"
	"strconv"
	"testing"

	"epicycle/api"
	"epicycle/dft"
	"epicycle/field"
	"epicycle/proof"
	"epicycle/sieve"
)

const (
	// most is MaxLen, as the chapter writes it; next is the next number above it that has no other factors than 2, 3, 5 and 7.
	most = 1024
	next = 1029
	top  = math.MaxUint64
)

// Primes whose p - 1 is made of small ones: by all products of 2 to 7 that are
// short enough; by many factors, but by 2 only once, close below 2^63; by 1025.
const (
	smooth = 137043*4096*2187*3125*2401 + 1
	odd    = 9223372036854774559
	beyond = 6*1025 + 1
)

func small(t *testing.T, p uint64) *field.Field {
	t.Helper()
	f, err := field.Small(p)
	if err != api.OK {
		t.Fatalf("Small(%d): %d", p, err)
	}
	return f
}

func known(t *testing.T, i int) *field.Field {
	t.Helper()
	f, err := field.Known(i)
	if err != api.OK {
		t.Fatalf("Known(%d): %d", i, err)
	}
	return f
}

// factored: the factors of a number that is made of small primes.
func factored(n uint64) []proof.Power {
	var all []proof.Power
	for q := uint64(2); n > 1; q++ {
		count := 0
		for ; n%q == 0; n /= q {
			count++
		}
		if count > 0 {
			all = append(all, proof.Power{Q: q, E: count})
		}
	}
	return all
}

// proved: the field of a prime, by a number from some one on whose powers are all.
func proved(t *testing.T, p, from uint64) *field.Field {
	t.Helper()
	entry := proof.Entry{P: p, G: from, Factors: factored(p - 1)}
	for slices.ContainsFunc(entry.Factors, func(factor proof.Power) bool { return power(entry.G, (p-1)/factor.Q, p) == 1 }) {
		entry.G++
	}
	var row []proof.Entry
	for _, factor := range entry.Factors[1:] {
		ahead, _ := sieve.Row(factor.Q)
		row = append(row, ahead...)
	}
	slices.SortFunc(row, func(a, b proof.Entry) int { return bigOf(a.P).Cmp(bigOf(b.P)) })
	row = slices.CompactFunc(row, func(a, b proof.Entry) bool { return a.P == b.P })
	f, err := field.New(append(row, entry), p)
	if err != api.OK {
		t.Fatalf("New of %d: %d", p, err)
	}
	return f
}

// fields: the known ones, small ones, some by numbers that aren't the least, and great ones.
func fields(t *testing.T) []*field.Field {
	t.Helper()
	var all []*field.Field
	for i := range 6 {
		all = append(all, known(t, i))
	}
	for _, p := range []uint64{3, 5, 7, 11, 13, 17, 23, 29, 31, 71, 211, 257, 491, 1009, 1373, 1459, 2521, 8101, 11251, 12289, 30871, 65521} {
		all = append(all, small(t, p))
	}
	all = append(all, proved(t, 7, 4), proved(t, 31, 11), proved(t, 2521, 100), proved(t, 65537, 2), proved(t, beyond, 2))
	return append(all, proved(t, smooth, 2), proved(t, odd, 2))
}

// ofEach: a test of each field, all at a time.
func ofEach(t *testing.T, test func(t *testing.T, f *field.Field)) {
	t.Parallel()
	for _, f := range fields(t) {
		t.Run(strconv.FormatUint(f.P(), 10), func(t *testing.T) {
			t.Parallel()
			test(t, f)
		})
	}
}

func bigOf(a uint64) *big.Int { return new(big.Int).SetUint64(a) }

func power(x, e, p uint64) uint64 {
	return new(big.Int).Exp(bigOf(x), bigOf(e), bigOf(p)).Uint64()
}

// against: what makes 1 with a number, modulo p.
func against(x, p uint64) uint64 {
	return new(big.Int).ModInverse(bigOf(x), bigOf(p)).Uint64()
}

// times: a product modulo p, by a division.
func times(x, y, p uint64) uint64 {
	high, low := bits.Mul64(x, y)
	return bits.Rem64(high, low, p)
}

// plus: a sum modulo p, of residues.
func plus(x, y, p uint64) uint64 {
	sum, carry := bits.Add64(x, y, 0)
	return bits.Rem64(carry, sum, p)
}

// rootOf: the number whose powers the sums have, as the chapter of layer 11 says it.
func rootOf(f *field.Field, n int, inverse bool) uint64 {
	p := f.P()
	root := power(f.G(), (p-1)/uint64(n), p)
	if inverse {
		return against(root, p)
	}
	return root
}

// sums: the transform, or the inverse one, as the chapter of layer 11 says it.
func sums(f *field.Field, list []uint64, inverse bool) []uint64 {
	p, n := f.P(), len(list)
	root, by, scale := rootOf(f, n, inverse), uint64(1), uint64(1)
	if inverse {
		scale = against(uint64(n), p)
	}
	all := make([]uint64, n)
	for i := range all {
		// From the last one back, each time by one power more.
		for _, x := range slices.Backward(list) {
			all[i] = plus(times(all[i], by, p), x, p)
		}
		all[i] = times(all[i], scale, p)
		by = times(by, root, p)
	}
	return all
}

// isMade: whether a number from 1 on has no other prime factors than 2, 3, 5 and 7: it divides a great power of their product.
func isMade(n int) bool {
	return power(2*3*5*7, 64, uint64(n)) == 0
}

// lengths: numbers up to MaxLen, made of 2, 3, 5 and 7, that divide p - 1.
func lengths(p uint64) []int {
	var all []int
	for n := 1; n <= most; n++ {
		if isMade(n) && (p-1)%uint64(n) == 0 {
			all = append(all, n)
		}
	}
	return all
}

// mingled: so many residues, of each seed others.
func mingled(p uint64, n int, seed uint64) []uint64 {
	x := 88172645463325252 + seed
	all := make([]uint64, n)
	for i := range all {
		x ^= x << 13
		x ^= x >> 7
		x ^= x << 17
		all[i] = x % p
	}
	return all
}

// alone: so many noughts, and one number among them.
func alone(n, at int, x uint64) []uint64 {
	all := make([]uint64, n)
	all[at] = x
	return all
}

// lists: of residues, mingled ones, the least, the greatest, and one alone.
func lists(p uint64, n int) [][]uint64 {
	all := [][]uint64{mingled(p, n, 1)}
	if n <= 256 {
		all = append(all, mingled(p, n, 2), make([]uint64, n), slices.Repeat([]uint64{1}, n), slices.Repeat([]uint64{p - 1}, n))
		all = append(all, alone(n, 0, p-1), alone(n, n/2, 1), alone(n, n-1, p-1))
	}
	return all
}

// seeAll: hands over all lists of so many residues.
func seeAll(p uint64, n int, see func(list []uint64)) {
	list := make([]uint64, n)
	var lay func(i int)
	lay = func(i int) {
		if i == n {
			see(list)
			return
		}
		for x := range p {
			list[i] = x
			lay(i + 1)
		}
	}
	lay(0)
}

// noResidues: numbers that aren't residues.
func noResidues(p uint64) []uint64 {
	return []uint64{p, p + 1, 2*p - 1, 2 * p, 1 << 63, top / p * p, top - 1, top}
}

// spoil: writes over all of a list, its spare room too.
func spoil(list []uint64) {
	list = list[:cap(list)]
	for i := range list {
		list[i] = 99
	}
}

// run: what Run answers of a list that it must transform.
func run(t *testing.T, f *field.Field, list []uint64, inverse bool) []uint64 {
	t.Helper()
	got, err := Run(f, list, inverse)
	if len(got) != len(list) || err != api.OK {
		t.Fatalf("Run of %d, and %d numbers, %v: %d numbers, %d", f.P(), len(list), inverse, len(got), err)
	}
	return got
}

// layer11: what layer 11 answers of a list that it must transform.
func layer11(t *testing.T, f *field.Field, list []uint64, inverse bool) []uint64 {
	t.Helper()
	got, err := dft.Run(f, list, inverse)
	if len(got) != len(list) || err != api.OK {
		t.Fatalf("dft.Run of %d, and %d numbers, %v: %d numbers, %d", f.P(), len(list), inverse, len(got), err)
	}
	return got
}

func expectSame(t *testing.T, name string, f *field.Field, got, want []uint64) {
	t.Helper()
	if !slices.Equal(got, want) {
		t.Fatalf("%s of %d, and %d numbers: from %v on, not %v", name, f.P(), len(want), got[:min(8, len(got))], want[:min(8, len(want))])
	}
}

// expectSums: Run answers the sums, forward and inverse.
func expectSums(t *testing.T, f *field.Field, list []uint64) {
	t.Helper()
	expectSame(t, "Run", f, run(t, f, list, false), sums(f, list, false))
	expectSame(t, "inverse Run", f, run(t, f, list, true), sums(f, list, true))
}

// expectAsLayer11: Run answers what layer 11 does, forward and inverse.
func expectAsLayer11(t *testing.T, f *field.Field, list []uint64) {
	t.Helper()
	expectSame(t, "Run as dft.Run", f, run(t, f, list, false), layer11(t, f, list, false))
	expectSame(t, "inverse Run as dft.Run", f, run(t, f, list, true), layer11(t, f, list, true))
}

// expectThereAndBack: both transforms, one behind the other, whichever is first, are the list.
func expectThereAndBack(t *testing.T, f *field.Field, list []uint64) {
	t.Helper()
	expectSame(t, "there and back", f, run(t, f, run(t, f, list, false), true), list)
	expectSame(t, "back and there", f, run(t, f, run(t, f, list, true), false), list)
}

// expectRefused: forward and inverse Run answers an error, and nothing beside it.
func expectRefused(t *testing.T, f *field.Field, list []uint64, want api.Errno) {
	t.Helper()
	for _, inverse := range []bool{false, true} {
		if got, err := Run(f, list, inverse); len(got) != 0 || err != want {
			t.Fatalf("Run of %d, and %d numbers, %v: %d numbers, %d, not %d", f.P(), len(list), inverse, len(got), err, want)
		}
	}
}

// expectRadices: Radices answers these, and true.
func expectRadices(t *testing.T, n int, want []int) {
	t.Helper()
	if got, ok := Radices(n); !ok || !slices.Equal(got, want) {
		t.Fatalf("Radices(%d): %v, %v, not %v", n, got, ok, want)
	}
}

// expectNoRadices: Radices answers none, and false.
func expectNoRadices(t *testing.T, n int) {
	t.Helper()
	if got, ok := Radices(n); ok || len(got) != 0 {
		t.Fatalf("Radices(%d): %v, %v, not none", n, got, ok)
	}
}

// P14.1: Radices of the chapter's example, of 1, of small factors alone, of their powers, and of their products.
func TestRadicesOfSome(t *testing.T) {
	for n, want := range map[int][]int{
		1: nil, 2: {2}, 3: {3}, 5: {5}, 7: {7},
		4: {2, 2}, 9: {3, 3}, 25: {5, 5}, 49: {7, 7}, 8: {2, 2, 2}, 27: {3, 3, 3}, 125: {5, 5, 5}, 343: {7, 7, 7},
		512: {2, 2, 2, 2, 2, 2, 2, 2, 2}, 1024: {2, 2, 2, 2, 2, 2, 2, 2, 2, 2}, 729: {3, 3, 3, 3, 3, 3}, 625: {5, 5, 5, 5},
		6: {2, 3}, 10: {2, 5}, 14: {2, 7}, 15: {3, 5}, 21: {3, 7}, 35: {5, 7}, 60: {2, 2, 3, 5}, 210: {2, 3, 5, 7},
		840: {2, 2, 2, 3, 5, 7}, 980: {2, 2, 5, 7, 7}, 1000: {2, 2, 2, 5, 5, 5}, 1008: {2, 2, 2, 2, 3, 3, 7},
	} {
		expectRadices(t, n, want)
	}
}

// P14.1: Radices of numbers with another prime factor, of 0, of what is below, and of what is above MaxLen.
func TestRadicesOfOthers(t *testing.T) {
	for _, n := range []int{11, 13, 22, 26, 33, 55, 77, 121, 169, 11 * 64, 31 * 31, 1009, 1019, 1021, 1022, 1023} {
		expectNoRadices(t, n)
	}
	for _, n := range []int{0, -1, -2, -3, -5, -6, -7, -60, -1024, -1025, math.MinInt, math.MinInt + 1, -1 << 40} {
		expectNoRadices(t, n)
	}
	for _, n := range []int{1025, 1026, next, 1050, 1080, 2048, 2187, 2401, 3125, 4096, 8192, 1 << 16, 1 << 40, 1 << 62, math.MaxInt, math.MaxInt - 1} {
		expectNoRadices(t, n)
	}
	if !isMade(next) || slices.ContainsFunc([]int{1025, 1026, 1027, 1028}, isMade) {
		t.Fatal("the next number above MaxLen is another one")
	}
}

// products: of all numbers up to MaxLen that are made of 2, 3, 5 and 7, these factors.
func products() map[int][]int {
	all := map[int][]int{1: nil}
	var lay func(n int, row []int)
	lay = func(n int, row []int) {
		all[n] = row
		for _, q := range []int{2, 3, 5, 7} {
			// The factors rise: none is below the one ahead of it.
			if n*q <= most && (len(row) == 0 || q >= row[len(row)-1]) {
				lay(n*q, append(slices.Clone(row), q))
			}
		}
	}
	lay(1, nil)
	return all
}

// P14.1: Radices of all numbers: those that are products of small factors, up to MaxLen, and no others.
func TestRadicesOfAll(t *testing.T) {
	all := products()
	for n := -5000; n <= 1<<17; n++ {
		if row, ok := all[n]; ok {
			expectRadices(t, n, row)
		} else {
			expectNoRadices(t, n)
		}
	}
	if len(all) != 143 {
		t.Fatalf("%d numbers are made of small factors", len(all))
	}
}

// P14.1: what Radices answers is new memory each time.
func TestRadicesAreNewMemory(t *testing.T) {
	for n, want := range products() {
		first, _ := Radices(n)
		second, _ := Radices(n)
		for i := range first[:cap(first)] {
			first[:cap(first)][i] = 99
		}
		if !slices.Equal(second, want) {
			t.Fatalf("Radices(%d), the other answer: %v, not %v", n, second, want)
		}
		expectRadices(t, n, want)
	}
}

// P14.1: the chapter's example, and some more that are reckoned by hand.
func TestExample(t *testing.T) {
	for _, c := range []struct {
		f         *field.Field
		list, sum []uint64
	}{
		{small(t, 7), []uint64{1, 2, 4}, []uint64{0, 0, 3}},
		{small(t, 5), []uint64{1, 2, 3, 4}, []uint64{0, 4, 3, 2}},
		{small(t, 3), []uint64{2}, []uint64{2}},
		{small(t, 17), []uint64{5, 9}, []uint64{14, 13}},
		{small(t, 7), []uint64{0, 1, 0}, []uint64{1, 2, 4}},
		{small(t, 7), []uint64{0, 0, 1}, []uint64{1, 4, 2}},
		{small(t, 7), []uint64{0, 1, 0, 0, 0, 0}, []uint64{1, 3, 2, 6, 4, 5}},
		{small(t, 7), []uint64{1, 0, 1, 0, 1, 0}, []uint64{3, 0, 0, 3, 0, 0}},
		{small(t, 11), []uint64{0, 1, 0, 0, 0}, []uint64{1, 4, 5, 9, 3}},
		{small(t, 11), []uint64{1, 0, 1, 0, 0}, []uint64{2, 6, 4, 5, 10}},
		{small(t, 11), alone(10, 1, 1), []uint64{1, 2, 4, 8, 5, 10, 9, 7, 3, 6}},
		{small(t, 13), alone(12, 1, 1), []uint64{1, 2, 4, 8, 3, 6, 12, 11, 9, 5, 10, 7}},
		{small(t, 29), alone(7, 1, 1), []uint64{1, 16, 24, 7, 25, 23, 20}},
		{small(t, 17), alone(16, 1, 1), []uint64{1, 3, 9, 10, 13, 5, 15, 11, 16, 14, 8, 7, 4, 12, 2, 6}},
		// By the second power of 5, which is 4, instead of that of 3, which is 2.
		{proved(t, 7, 5), []uint64{0, 1, 0}, []uint64{1, 4, 2}},
	} {
		expectSame(t, "Run", c.f, run(t, c.f, c.list, false), c.sum)
		expectSame(t, "inverse Run", c.f, run(t, c.f, c.sum, true), c.list)
	}
}

// P14.1: of all fields and all lengths that there are, by one factor alone and by several, the sums, forward and inverse.
func TestSums(t *testing.T) {
	ofEach(t, func(t *testing.T, f *field.Field) {
		for _, n := range lengths(f.P()) {
			for _, list := range lists(f.P(), n) {
				expectSums(t, f, list)
			}
		}
	})
}

// P14.1: of each number of 2, 3, 5 and 7 up to MaxLen there is a field among these, small or great, that has its roots.
func TestAllLengthsAreMet(t *testing.T) {
	if got := lengths(smooth); len(got) != len(products()) || got[len(got)-1] != most {
		t.Fatalf("only %d lengths", len(got))
	}
	for _, c := range []struct {
		p uint64
		n int
	}{{12289, 1024}, {1459, 729}, {11251, 625}, {1373, 343}, {2521, 840}, {1009, 1008}, {491, 490}, {30871, 882}, {8101, 900}} {
		if !slices.Contains(lengths(c.p), c.n) || !slices.ContainsFunc(fields(t), func(f *field.Field) bool { return f.P() == c.p }) {
			t.Fatalf("%d numbers, of %d, aren't tested", c.n, c.p)
		}
	}
}

// P14.1: as layer 11 answers, of more lists.
func TestAsLayer11(t *testing.T) {
	ofEach(t, func(t *testing.T, f *field.Field) {
		for _, n := range lengths(f.P()) {
			for _, list := range many(f.P(), n) {
				expectAsLayer11(t, f, list)
			}
		}
	})
}

// P14.1, P14.2: of the least primes, all lists that there are.
func TestAllLists(t *testing.T) {
	t.Parallel()
	for _, c := range []struct {
		p uint64
		n int
	}{{3, 1}, {3, 2}, {5, 1}, {5, 2}, {5, 4}, {7, 1}, {7, 2}, {7, 3}, {7, 6}, {11, 2}, {11, 5}, {13, 2}, {13, 3}, {13, 4}, {17, 2}, {31, 2}, {31, 3}, {97, 2}} {
		f := small(t, c.p)
		seeAll(c.p, c.n, func(list []uint64) {
			expectSums(t, f, list)
			expectThereAndBack(t, f, list)
		})
	}
}

// P14.1: of one number both transforms are that number.
func TestOneNumber(t *testing.T) {
	for _, f := range fields(t) {
		for _, x := range []uint64{0, 1, 2, f.P() / 2, f.P() - 2, f.P() - 1} {
			expectSame(t, "Run", f, run(t, f, []uint64{x}, false), []uint64{x})
			expectSame(t, "inverse Run", f, run(t, f, []uint64{x}, true), []uint64{x})
		}
	}
}

// P14.1: of one 1 among noughts the transform is the root's powers, by as many steps as its place; wherever it is.
func TestOneAlone(t *testing.T) {
	ofEach(t, func(t *testing.T, f *field.Field) {
		for _, n := range lengths(f.P()) {
			// Of long lists, at some places.
			step := max(1, n/32-1)
			for at := 0; at < n; at += step {
				expectPowers(t, f, n, at)
			}
		}
	})
}

// expectPowers: of one 1 among noughts Run answers powers, each of which is reckoned from the one ahead of it.
func expectPowers(t *testing.T, f *field.Field, n, at int) {
	t.Helper()
	p := f.P()
	for _, inverse := range []bool{false, true} {
		by := power(rootOf(f, n, inverse), uint64(at), p)
		x := uint64(1)
		if inverse {
			x = against(uint64(n), p)
		}
		want := make([]uint64, n)
		for i := range want {
			want[i] = x
			x = times(x, by, p)
		}
		expectSame(t, "Run", f, run(t, f, alone(n, at, 1), inverse), want)
	}
}

// P14.1: just MaxLen numbers are transformed, if there is a root.
func TestJustMaxLen(t *testing.T) {
	met := 0
	for _, f := range fields(t) {
		list := slices.Repeat([]uint64{f.P() - 1}, most)
		if (f.P()-1)%most != 0 {
			expectRefused(t, f, list, api.ErrOrder)
			continue
		}
		met++
		// The first one is the sum of all; the others are multiples of the sum of all powers of a root, which is 0.
		expectSame(t, "Run", f, run(t, f, list, false), alone(most, 0, f.P()-most%f.P()))
		expectSame(t, "inverse Run", f, run(t, f, list, true), alone(most, 0, f.P()-1))
		expectThereAndBack(t, f, list)
	}
	if met < 8 {
		t.Fatalf("only %d fields have roots of %d", met, most)
	}
}

// P14.1: ErrNil of a nil field, whatever the list, and ahead of all other errors.
func TestNilField(t *testing.T) {
	noughts, others := make([]uint64, 2*most+1), slices.Repeat([]uint64{top}, 2*most+1)
	for n := range noughts {
		expectRefused(t, nil, noughts[:n], api.ErrNil)
		expectRefused(t, nil, others[:n], api.ErrNil)
	}
	expectRefused(t, nil, nil, api.ErrNil)
}

// P14.1: ErrArg of an empty list.
func TestNothing(t *testing.T) {
	for _, f := range fields(t) {
		expectRefused(t, f, nil, api.ErrArg)
		expectRefused(t, f, []uint64{}, api.ErrArg)
		expectRefused(t, f, []uint64{1, top}[:0], api.ErrArg)
	}
}

// P14.1: ErrLong of more than MaxLen, whether or not their number has small factors alone, or divides p - 1, and they are residues.
func TestLongLists(t *testing.T) {
	for _, f := range fields(t) {
		for _, n := range []int{most + 1, most + 2, next, 1050, 2*most - 1, 2 * most, 3 * most, 4 * most, 4*most + 1, 8 * most, 1 << 16} {
			expectRefused(t, f, make([]uint64, n), api.ErrLong)
			expectRefused(t, f, slices.Repeat([]uint64{top}, n), api.ErrLong)
		}
	}
	if !proved(t, beyond, 2).Divides(most+1) || !proved(t, smooth, 2).Divides(next) || !known(t, 0).Divides(4*most) || small(t, 17).Divides(next) {
		t.Fatal("the lengths are none of both kinds")
	}
}

// P14.1: of all lengths up to MaxLen, ErrOrder of those that don't divide p - 1, and ErrKind of those that do, but have other factors;
// both ahead of ErrEntry.
func TestOtherLengths(t *testing.T) {
	ofEach(t, func(t *testing.T, f *field.Field) {
		p := f.P()
		noughts, others := make([]uint64, most), slices.Repeat([]uint64{p}, most)
		for n := 1; n <= most; n++ {
			want := api.ErrKind
			if (p-1)%uint64(n) != 0 {
				want = api.ErrOrder
			} else if isMade(n) {
				continue
			}
			expectRefused(t, f, noughts[:n], want)
			expectRefused(t, f, others[:n], want)
		}
	})
}

// P14.1: ErrEntry, if one is no residue, wherever it stands, at all lengths that there are.
func TestOthersThanResidues(t *testing.T) {
	for _, f := range fields(t) {
		for _, n := range lengths(f.P()) {
			for _, x := range noResidues(f.P()) {
				for _, at := range []int{0, n / 3, n / 2, n - 1} {
					expectRefused(t, f, alone(n, at, x), api.ErrEntry)
				}
			}
		}
	}
}

// P14.1: of several errors the one that the chapters name first, one by one.
func TestSeveralErrors(t *testing.T) {
	seven, twentythree := small(t, 7), small(t, 23)
	for _, c := range []struct {
		f    *field.Field
		list []uint64
		want api.Errno
	}{
		{nil, nil, api.ErrNil}, {nil, []uint64{99}, api.ErrNil}, {nil, slices.Repeat([]uint64{99}, 11), api.ErrNil}, {nil, make([]uint64, 1025), api.ErrNil},
		{seven, nil, api.ErrArg}, {seven, slices.Repeat([]uint64{9}, 1025), api.ErrLong}, {seven, make([]uint64, 1026), api.ErrLong}, {seven, make([]uint64, 1029), api.ErrLong},
		{seven, make([]uint64, 5), api.ErrOrder}, {seven, make([]uint64, 11), api.ErrOrder}, {seven, []uint64{9, 0, 0, 0}, api.ErrOrder}, {seven, slices.Repeat([]uint64{9}, 1024), api.ErrOrder},
		{twentythree, make([]uint64, 11), api.ErrKind}, {twentythree, make([]uint64, 22), api.ErrKind}, {twentythree, slices.Repeat([]uint64{23}, 11), api.ErrKind}, {twentythree, slices.Repeat([]uint64{top}, 22), api.ErrKind},
		{twentythree, []uint64{23, 1}, api.ErrEntry}, {seven, []uint64{7}, api.ErrEntry}, {seven, []uint64{0, 1, top}, api.ErrEntry}, {seven, []uint64{7, 1, 2, 3, 4, 5}, api.ErrEntry},
	} {
		expectRefused(t, c.f, c.list, c.want)
	}
}

// P14.1: a list that is handed in stays as it was, the room behind it too, whatever is answered.
func TestListsStay(t *testing.T) {
	for _, f := range []*field.Field{nil, small(t, 5), small(t, 7), small(t, 13), small(t, 23), known(t, 0), known(t, 5)} {
		for _, room := range [][]uint64{{1, 2, 3, 4, 0, 1, 2, 3, 4, 0, 1, 2, 3}, {4, 3, 2, 5, 1, 1, 1, 1, 1, 1, 1, 1, 1}, {top, 1, 1, 1, 1, 1, 1, 1, 1, 1, 1, 1, 1}} {
			same := slices.Clone(room)
			for n := range room {
				Run(f, room[:n], false)
				Run(f, room[:n], true)
				expectSame(t, "the list", f, room, same)
			}
		}
	}
	f := proved(t, smooth, 2)
	long := mingled(f.P(), 2*most, 5)
	same := slices.Clone(long)
	for _, n := range []int{1, 2, 3, 5, 7, 11, 210, 625, 729, 840, most, next, 2 * most} {
		Run(f, long[:n], false)
		Run(f, long[:n], true)
		expectSame(t, "the list", f, long, same)
	}
}

// P14.1: what is answered is new memory each time, and hangs on what is handed in alone.
func TestAnswersAreNewMemory(t *testing.T) {
	f, other := small(t, 211), small(t, 2521)
	for _, n := range lengths(211) {
		list := mingled(211, n, 6)
		same := slices.Clone(list)
		for _, inverse := range []bool{false, true} {
			first := run(t, f, list, inverse)
			want := slices.Clone(first)
			spoil(run(t, other, list, inverse))
			second := run(t, f, list, inverse)
			expectSame(t, "the same again", f, second, want)
			spoil(first)
			expectSame(t, "the other answer", f, second, want)
			expectSame(t, "the list", f, list, same)
		}
	}
}

// P14.1: what is written into a list behind a call isn't seen in its answer.
func TestListsAreNotKept(t *testing.T) {
	f := small(t, 211)
	for _, n := range lengths(211) {
		list := mingled(211, n, 7)
		want := [][]uint64{sums(f, list, false), sums(f, list, true)}
		there, back := run(t, f, list, false), run(t, f, list, true)
		spoil(list)
		expectSame(t, "Run", f, there, want[0])
		expectSame(t, "inverse Run", f, back, want[1])
	}
}

// many: lists of residues, long ones too.
func many(p uint64, n int) [][]uint64 {
	all := [][]uint64{mingled(p, n, 3), slices.Repeat([]uint64{p - 1}, n), alone(n, n-1, p-1), alone(n, 1%n, 1)}
	for seed := range uint64(3) {
		all = append(all, mingled(p, n, 20+seed))
	}
	return all
}

// P14.2: there and back to the list, of all fields and lengths, and whichever way is first.
func TestThereAndBack(t *testing.T) {
	ofEach(t, func(t *testing.T, f *field.Field) {
		for _, n := range lengths(f.P()) {
			for _, list := range append(many(f.P(), n), lists(f.P(), n)...) {
				expectThereAndBack(t, f, list)
			}
		}
	})
}

// P14.2: there by small factors, and back by layer 11, or the other way round.
func TestThereAndBackWithLayer11(t *testing.T) {
	ofEach(t, func(t *testing.T, f *field.Field) {
		for _, n := range lengths(f.P()) {
			list := mingled(f.P(), n, 9)
			expectSame(t, "Run there, dft.Run back", f, layer11(t, f, run(t, f, list, false), true), list)
			expectSame(t, "dft.Run there, Run back", f, run(t, f, layer11(t, f, list, false), true), list)
		}
	})
}

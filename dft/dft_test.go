package dft

import (
	"math"
	"math/big"
	"math/bits"
	"slices"
	"strconv"
	"testing"

	"epicycle/api"
	"epicycle/field"
	"epicycle/proof"
	"epicycle/sieve"
)

const (
	// most is MaxLen, as the chapter writes it.
	most = 1024
	top  = math.MaxUint64
)

// Primes whose p - 1 is made of small ones: by all products of 2 to 7 that are
// short enough; by many factors, but by 2 only once, close below 2^63; by 1025.
const (
	smooth = 137043*4096*2187*3125*2401 + 1
	odd    = 9223372036854774559
	beyond = 6*1025 + 1
)

func small(t *testing.T, p uint64) *field.Field {
	t.Helper()
	f, err := field.Small(p)
	if err != api.OK {
		t.Fatalf("Small(%d): %d", p, err)
	}
	return f
}

func known(t *testing.T, i int) *field.Field {
	t.Helper()
	f, err := field.Known(i)
	if err != api.OK {
		t.Fatalf("Known(%d): %d", i, err)
	}
	return f
}

// factors: those of a number that is made of small primes.
func factors(n uint64) []proof.Power {
	var all []proof.Power
	for q := uint64(2); n > 1; q++ {
		count := 0
		for ; n%q == 0; n /= q {
			count++
		}
		if count > 0 {
			all = append(all, proof.Power{Q: q, E: count})
		}
	}
	return all
}

// proved: the field of a prime, by a number from some one on whose powers are all.
func proved(t *testing.T, p, from uint64) *field.Field {
	t.Helper()
	entry := proof.Entry{P: p, G: from, Factors: factors(p - 1)}
	for slices.ContainsFunc(entry.Factors, func(factor proof.Power) bool { return power(entry.G, (p-1)/factor.Q, p) == 1 }) {
		entry.G++
	}
	var row []proof.Entry
	for _, factor := range entry.Factors[1:] {
		ahead, _ := sieve.Row(factor.Q)
		row = append(row, ahead...)
	}
	slices.SortFunc(row, func(a, b proof.Entry) int { return bigOf(a.P).Cmp(bigOf(b.P)) })
	row = slices.CompactFunc(row, func(a, b proof.Entry) bool { return a.P == b.P })
	f, err := field.New(append(row, entry), p)
	if err != api.OK {
		t.Fatalf("New of %d: %d", p, err)
	}
	return f
}

// fields: the known ones, small ones, some by numbers that aren't the least, and great ones.
func fields(t *testing.T) []*field.Field {
	t.Helper()
	var all []*field.Field
	for i := range 6 {
		all = append(all, known(t, i))
	}
	for _, p := range []uint64{3, 5, 7, 13, 17, 31, 97, 211, 257, beyond, 7681, 12289, 40961, 65521} {
		all = append(all, small(t, p))
	}
	all = append(all, proved(t, 7, 4), proved(t, 17, 6), proved(t, 12289, 5000))
	return append(all, proved(t, smooth, 2), proved(t, odd, 2))
}

// ofEach: a test of each field, all at a time.
func ofEach(t *testing.T, test func(t *testing.T, f *field.Field)) {
	t.Parallel()
	for _, f := range fields(t) {
		t.Run(strconv.FormatUint(f.P(), 10), func(t *testing.T) {
			t.Parallel()
			test(t, f)
		})
	}
}

func bigOf(a uint64) *big.Int { return new(big.Int).SetUint64(a) }

func power(x, e, p uint64) uint64 {
	return new(big.Int).Exp(bigOf(x), bigOf(e), bigOf(p)).Uint64()
}

// against: what makes 1 with a number, modulo p; 0, if there is none.
func against(x, p uint64) uint64 {
	inverse := new(big.Int).ModInverse(bigOf(x), bigOf(p))
	if inverse == nil {
		return 0
	}
	return inverse.Uint64()
}

// times: a product modulo p, by a division.
func times(x, y, p uint64) uint64 {
	high, low := bits.Mul64(x, y)
	return bits.Rem64(high, low, p)
}

// plus: a sum modulo p, of residues.
func plus(x, y, p uint64) uint64 {
	sum, carry := bits.Add64(x, y, 0)
	return bits.Rem64(carry, sum, p)
}

// eachTimes: all of a list, times a number.
func eachTimes(list []uint64, by, p uint64) []uint64 {
	all := make([]uint64, len(list))
	for i, x := range list {
		all[i] = times(x, by, p)
	}
	return all
}

// rootOf: the number whose powers the sums have, as the chapter says it.
func rootOf(f *field.Field, n int, inverse bool) uint64 {
	p := f.P()
	root := power(f.G(), (p-1)/uint64(n), p)
	if inverse {
		return against(root, p)
	}
	return root
}

// sums: the transform, or the inverse one, as the chapter says it.
func sums(f *field.Field, list []uint64, inverse bool) []uint64 {
	p, n := f.P(), len(list)
	root := rootOf(f, n, inverse)
	all := make([]uint64, n)
	by := uint64(1)
	for i := range all {
		// From the last one back, each time by one power more.
		for _, x := range slices.Backward(list) {
			all[i] = plus(times(all[i], by, p), x, p)
		}
		by = times(by, root, p)
	}
	if inverse {
		return eachTimes(all, against(uint64(n), p), p)
	}
	return all
}

// lengths: numbers up to MaxLen that divide p - 1.
func lengths(p uint64) []int {
	var all []int
	for n := 1; n <= most; n++ {
		if (p-1)%uint64(n) == 0 {
			all = append(all, n)
		}
	}
	return all
}

// mingled: so many residues, of each seed others.
func mingled(p uint64, n int, seed uint64) []uint64 {
	x := 88172645463325252 + seed
	all := make([]uint64, n)
	for i := range all {
		x ^= x << 13
		x ^= x >> 7
		x ^= x << 17
		all[i] = x % p
	}
	return all
}

// alone: so many noughts, and one number among them.
func alone(n, at int, x uint64) []uint64 {
	all := make([]uint64, n)
	all[at] = x
	return all
}

// lists: of residues, mingled ones, and, of such as aren't too long, the least, the greatest, and one alone.
func lists(p uint64, n int) [][]uint64 {
	all := [][]uint64{mingled(p, n, 1)}
	if n <= 100 || n == most {
		all = append(all, slices.Repeat([]uint64{p - 1}, n), mingled(p, n, 2))
	}
	if n <= 100 {
		all = append(all, make([]uint64, n), slices.Repeat([]uint64{1}, n), alone(n, 0, p-1), alone(n, n/2, 1), alone(n, n-1, p-1))
	}
	return all
}

// seeAll: hands over all lists of so many residues.
func seeAll(p uint64, n int, see func(list []uint64)) {
	list := make([]uint64, n)
	var lay func(i int)
	lay = func(i int) {
		if i == n {
			see(list)
			return
		}
		for x := range p {
			list[i] = x
			lay(i + 1)
		}
	}
	lay(0)
}

// transformed: what Run answers, which must be the transform of something.
func transformed(t *testing.T, f *field.Field, list []uint64, inverse bool) []uint64 {
	t.Helper()
	got, err := Run(f, list, inverse)
	if len(got) != len(list) || err != api.OK {
		t.Fatalf("Run of %d, and %d numbers, %v: %d numbers, %d", f.P(), len(list), inverse, len(got), err)
	}
	return got
}

func expectSame(t *testing.T, name string, f *field.Field, got, want []uint64) {
	t.Helper()
	if !slices.Equal(got, want) {
		t.Fatalf("%s of %d, and %d numbers: from %v on, not %v", name, f.P(), len(want), got[:min(8, len(got))], want[:min(8, len(want))])
	}
}

// expectRun: Run, forward and inverse, answers the sums.
func expectRun(t *testing.T, f *field.Field, list []uint64) {
	t.Helper()
	expectSame(t, "Run", f, transformed(t, f, list, false), sums(f, list, false))
	expectSame(t, "inverse Run", f, transformed(t, f, list, true), sums(f, list, true))
}

// expectRefused: Run, forward and inverse, answers an error, and nothing beside it.
func expectRefused(t *testing.T, f *field.Field, list []uint64, want api.Errno) {
	t.Helper()
	for _, inverse := range []bool{false, true} {
		if got, err := Run(f, list, inverse); len(got) != 0 || err != want {
			t.Fatalf("Run of %d, and %d numbers, %v: %d numbers, %d, not %d", f.P(), len(list), inverse, len(got), err, want)
		}
	}
}

func expectCheck(t *testing.T, f *field.Field, n, upto int, want api.Errno) {
	t.Helper()
	if got := Check(f, n, upto); got != want {
		t.Fatalf("Check of %d, %d, %d: %d, not %d", f.P(), n, upto, got, want)
	}
}

func expectGood(t *testing.T, f *field.Field, list []uint64, want bool) {
	t.Helper()
	if got := Good(f, list); got != want {
		t.Fatalf("Good of %d, and %d numbers, from %v on: %v", f.P(), len(list), list[:min(8, len(list))], got)
	}
}

// P11.1: the chapter's example, and some more that are reckoned by hand.
func TestExample(t *testing.T) {
	for _, c := range []struct {
		p         uint64
		list, sum []uint64
	}{
		{5, []uint64{1, 2, 3, 4}, []uint64{0, 4, 3, 2}},
		{7, []uint64{1, 2, 4}, []uint64{0, 0, 3}},
		{17, []uint64{1, 0}, []uint64{1, 1}},
		{17, []uint64{0, 1, 0, 0}, []uint64{1, 13, 16, 4}},
		{3, []uint64{2, 2}, []uint64{1, 0}},
		{3, []uint64{2}, []uint64{2}},
	} {
		f := small(t, c.p)
		expectSame(t, "Run", f, transformed(t, f, c.list, false), c.sum)
		expectSame(t, "inverse Run", f, transformed(t, f, c.sum, true), c.list)
	}
	// By 6, of which the fourth power is 4, instead of 3.
	f := proved(t, 17, 6)
	expectSame(t, "Run", f, transformed(t, f, []uint64{0, 1, 0, 0}, false), []uint64{1, 4, 16, 13})
}

// firstError: what the chapter says, first of all of a nil field, and so on.
func firstError(f *field.Field, n, upto int) api.Errno {
	switch {
	case f == nil:
		return api.ErrNil
	case n <= 0:
		return api.ErrArg
	case n > upto:
		return api.ErrLong
	case new(big.Int).Mod(bigOf(f.P()-1), big.NewInt(int64(n))).Sign() != 0:
		return api.ErrOrder
	}
	return api.OK
}

// P11.1: Check, of all lengths and bounds, those below 0 and beyond MaxLen too.
func TestCheck(t *testing.T) {
	bounds := []int{math.MinInt, -4, -1, 0, 1, 2, 3, 4, 5, 60, 1000, 1023, most, 1025, 4096, 1 << 32, math.MaxInt}
	for _, f := range append(fields(t), nil) {
		ends := []int{math.MinInt, math.MinInt + 1, -1 << 32, 1 << 32, 1 << 55, 1 << 57, math.MaxInt - 1, math.MaxInt}
		ends = append(ends, int(f.P()-1), int(f.P()), 1-int(f.P()), -int(f.P()))
		for n := -100; n <= most+100; n++ {
			ends = append(ends, n)
		}
		for _, n := range ends {
			for _, upto := range bounds {
				expectCheck(t, f, n, upto, firstError(f, n, upto))
			}
			expectCheck(t, f, n, n, firstError(f, n, n))
			expectCheck(t, f, n, n-1, firstError(f, n, n-1))
		}
	}
}

// P11.1: the edges of Check, one by one, and which error comes first.
func TestCheckAtTheEdges(t *testing.T) {
	f := small(t, 17)
	for _, c := range []struct {
		f       *field.Field
		n, upto int
		want    api.Errno
	}{
		{nil, 0, 0, api.ErrNil}, {nil, -1, -2, api.ErrNil}, {nil, 5, 3, api.ErrNil}, {nil, 3, 5, api.ErrNil}, {nil, 4, 4, api.ErrNil},
		{f, 0, 0, api.ErrArg}, {f, 0, -1, api.ErrArg}, {f, 0, most, api.ErrArg}, {f, -1, most, api.ErrArg}, {f, -1, -2, api.ErrArg},
		{f, -4, most, api.ErrArg}, {f, math.MinInt, math.MinInt, api.ErrArg}, {f, math.MinInt, math.MaxInt, api.ErrArg},
		{f, 4, 3, api.ErrLong}, {f, 3, 2, api.ErrLong}, {f, 1, 0, api.ErrLong}, {f, 1, -1, api.ErrLong}, {f, 1, math.MinInt, api.ErrLong}, {f, 17, 16, api.ErrLong},
		{f, 3, 3, api.ErrOrder}, {f, 17, 17, api.ErrOrder}, {f, 32, most, api.ErrOrder}, {f, math.MaxInt, math.MaxInt, api.ErrOrder},
		{f, 1, 1, api.OK}, {f, 4, 4, api.OK}, {f, 4, 5, api.OK}, {f, 16, 16, api.OK}, {f, 16, math.MaxInt, api.OK},
	} {
		expectCheck(t, c.f, c.n, c.upto, c.want)
	}
	expectCheck(t, known(t, 0), 1<<57, 1<<57, api.OK)
	expectCheck(t, known(t, 0), 1<<58, 1<<58, api.ErrOrder)
	expectCheck(t, small(t, beyond), 1025, most, api.ErrLong)
	expectCheck(t, small(t, beyond), 1025, 1025, api.OK)
}

// noResidues: numbers that aren't residues.
func noResidues(p uint64) []uint64 {
	return []uint64{p, p + 1, 2*p - 1, 2 * p, 1 << 63, top / p * p, top - 1, top}
}

// P11.1: Good of residues, the least and the greatest, however many there are.
func TestGoodOfResidues(t *testing.T) {
	for _, f := range fields(t) {
		p := f.P()
		expectGood(t, f, nil, true)
		expectGood(t, f, []uint64{}, true)
		expectGood(t, f, []uint64{p}[:0], true)
		for _, x := range []uint64{0, 1, p / 2, p - 2, p - 1} {
			expectGood(t, f, []uint64{x}, true)
		}
		for _, n := range []int{2, 3, 7, 64, most, most + 1, 5000} {
			expectGood(t, f, make([]uint64, n), true)
			expectGood(t, f, slices.Repeat([]uint64{p - 1}, n), true)
			expectGood(t, f, mingled(p, n, 3), true)
		}
	}
}

// P11.1: Good is false if one is no residue, whichever and wherever it is; what stands behind the list isn't asked.
func TestGoodOfOthers(t *testing.T) {
	for _, f := range fields(t) {
		p := f.P()
		for _, x := range noResidues(p) {
			expectGood(t, f, []uint64{x}, false)
			for _, n := range []int{2, 3, 7, 64, most + 1} {
				for _, at := range []int{0, 1, n / 2, n - 2, n - 1} {
					list := mingled(p, n, 3)
					list[at] = x
					expectGood(t, f, list, false)
					expectGood(t, f, list[:at], true)
					expectGood(t, f, list[at+1:], true)
				}
			}
		}
		expectGood(t, f, noResidues(p), false)
	}
}

// P11.1: Good of a nil field is false, of no numbers too.
func TestGoodOfNilField(t *testing.T) {
	for _, list := range [][]uint64{nil, {}, {0}, {1}, {0, 0}, {5, 6}, {top}, make([]uint64, most+1)} {
		expectGood(t, nil, list, false)
	}
}

// P11.1: Scale, of lists of all lengths, residues or not, of as many as a multiple of p too.
func TestScale(t *testing.T) {
	ofEach(t, func(t *testing.T, f *field.Field) {
		p := f.P()
		for n := range 400 {
			expectScale(t, f, mingled(p, n, 4))
			expectScale(t, f, slices.Repeat([]uint64{p - 1}, n))
			expectScale(t, f, mingled(top, n, 5))
			expectScale(t, f, slices.Repeat(noResidues(p), n/8))
		}
		for _, n := range []int{most - 1, most, most + 1, 4096, 7680, 7681, 12288, 12289, 2 * 12289, 1<<16 - 1, 1 << 16, 1<<16 + 1, 1<<17 + 3} {
			expectScale(t, f, mingled(top, n, 6))
		}
	})
}

// expectScale: Scale is each times what makes 1 with their number, or all noughts.
func expectScale(t *testing.T, f *field.Field, list []uint64) {
	t.Helper()
	p := f.P()
	// What has no inverse has 0 here, which makes noughts.
	by := against(uint64(len(list))%p, p)
	if (by == 0) != (uint64(len(list))%p == 0) {
		t.Fatalf("%d has %d modulo %d", len(list), by, p)
	}
	expectSame(t, "Scale", f, Scale(f, list), eachTimes(list, by, p))
}

// P11.1: Scale at the edges: no numbers, one, as many as a multiple of p, and next to it, and numbers that are no residues.
func TestScaleAtTheEdges(t *testing.T) {
	for _, c := range []struct {
		p          uint64
		list, want []uint64
	}{
		{5, nil, nil}, {5, []uint64{}, nil},
		{5, []uint64{3}, []uint64{3}}, {5, []uint64{8}, []uint64{3}}, {5, []uint64{5}, []uint64{0}},
		{5, []uint64{1, 2}, []uint64{3, 1}}, {5, []uint64{6, 7}, []uint64{3, 1}},
		{5, []uint64{1, 2, 3, 4}, []uint64{4, 3, 2, 1}},
		{5, []uint64{1, 2, 3, 4, 1}, []uint64{0, 0, 0, 0, 0}},
		{5, []uint64{1, 2, 3, 4, 0, 1}, []uint64{1, 2, 3, 4, 0, 1}},
		{3, []uint64{1, 2, 1}, []uint64{0, 0, 0}},
		{3, []uint64{1, 2, 1, 2, 1, 2}, []uint64{0, 0, 0, 0, 0, 0}},
		{3, []uint64{1, 2, 1, 2, 4}, []uint64{2, 1, 2, 1, 2}},
	} {
		f := small(t, c.p)
		expectSame(t, "Scale", f, Scale(f, c.list), c.want)
	}
}

// P11.1: Scale of a nil field answers noughts, as many as there are.
func TestScaleOfNilField(t *testing.T) {
	for _, n := range []int{0, 1, 2, 3, 5, most, most + 1, 5000} {
		for _, list := range [][]uint64{make([]uint64, n), slices.Repeat([]uint64{1}, n), slices.Repeat([]uint64{top}, n)} {
			expectSame(t, "Scale", nil, Scale(nil, list), make([]uint64, n))
		}
	}
}

// P11.1: of all fields and all lengths that there are, Run answers the sums that define it, forward and inverse.
func TestRun(t *testing.T) {
	ofEach(t, func(t *testing.T, f *field.Field) {
		for _, n := range lengths(f.P()) {
			for _, list := range lists(f.P(), n) {
				expectRun(t, f, list)
			}
		}
	})
}

// P11.1, P11.2: of the least primes, all lists that there are.
func TestRunOfAllLists(t *testing.T) {
	for _, c := range []struct {
		p uint64
		n int
	}{{3, 1}, {3, 2}, {5, 1}, {5, 2}, {5, 4}, {7, 1}, {7, 2}, {7, 3}, {11, 2}, {13, 1}, {13, 2}, {13, 3}, {17, 2}, {31, 3}} {
		f := small(t, c.p)
		seeAll(c.p, c.n, func(list []uint64) {
			expectRun(t, f, list)
			expectThereAndBack(t, f, list)
		})
	}
}

// P11.1: of one number both transforms are that number.
func TestRunOfOneNumber(t *testing.T) {
	for _, f := range fields(t) {
		for _, x := range []uint64{0, 1, 2, f.P() / 2, f.P() - 2, f.P() - 1} {
			expectSame(t, "Run", f, transformed(t, f, []uint64{x}, false), []uint64{x})
			expectSame(t, "inverse Run", f, transformed(t, f, []uint64{x}, true), []uint64{x})
		}
	}
}

// P11.1: of one 1 among noughts the transform is the root's powers, by as many steps as its place; wherever it is.
func TestRunOfOneAlone(t *testing.T) {
	ofEach(t, func(t *testing.T, f *field.Field) {
		p := f.P()
		for _, n := range lengths(p) {
			if n > 64 {
				break
			}
			for at := range n {
				for _, inverse := range []bool{false, true} {
					want := make([]uint64, n)
					for i := range want {
						want[i] = power(rootOf(f, n, inverse), uint64(i*at), p)
						if inverse {
							want[i] = times(want[i], against(uint64(n), p), p)
						}
					}
					expectSame(t, "Run", f, transformed(t, f, alone(n, at, 1), inverse), want)
				}
			}
		}
	})
}

// P11.1: ErrNil of a nil field, whatever the list, and ahead of all other errors.
func TestRunOfNilField(t *testing.T) {
	for n := range most + 20 {
		expectRefused(t, nil, make([]uint64, n), api.ErrNil)
		expectRefused(t, nil, slices.Repeat([]uint64{top}, n), api.ErrNil)
	}
	expectRefused(t, nil, nil, api.ErrNil)
}

// P11.1: ErrArg of an empty list.
func TestRunOfNothing(t *testing.T) {
	for _, f := range fields(t) {
		expectRefused(t, f, nil, api.ErrArg)
		expectRefused(t, f, []uint64{}, api.ErrArg)
		expectRefused(t, f, []uint64{1, top}[:0], api.ErrArg)
	}
}

// P11.1: ErrLong of more than MaxLen, whether or not their number divides p - 1, and they are residues.
func TestRunOfLongLists(t *testing.T) {
	for _, f := range fields(t) {
		for _, n := range []int{most + 1, most + 2, 2*most - 1, 2 * most, 3 * most, 4 * most, 4*most + 1, 1 << 16} {
			expectRefused(t, f, make([]uint64, n), api.ErrLong)
			expectRefused(t, f, slices.Repeat([]uint64{top}, n), api.ErrLong)
		}
	}
	if !small(t, beyond).Divides(most+1) || !known(t, 0).Divides(2*most) || small(t, 17).Divides(most+1) {
		t.Fatal("the lengths are none of both kinds")
	}
}

// P11.1: just MaxLen numbers are transformed, if there is a root.
func TestRunOfJustMaxLen(t *testing.T) {
	met := 0
	for _, f := range fields(t) {
		list := mingled(f.P(), most, 7)
		if (f.P()-1)%most != 0 {
			expectRefused(t, f, list, api.ErrOrder)
			continue
		}
		met++
		expectRun(t, f, list)
		expectThereAndBack(t, f, list)
	}
	if met < 5 {
		t.Fatalf("only %d fields have roots of %d", met, most)
	}
}

// P11.1: ErrOrder of all lengths up to MaxLen that don't divide p - 1, ahead of ErrEntry.
func TestRunWithoutRoot(t *testing.T) {
	for _, f := range fields(t) {
		fit := lengths(f.P())
		for n := 1; n <= most; n++ {
			if !slices.Contains(fit, n) {
				expectRefused(t, f, make([]uint64, n), api.ErrOrder)
				expectRefused(t, f, slices.Repeat([]uint64{f.P()}, n), api.ErrOrder)
			}
		}
	}
}

// P11.1: ErrEntry, if one is no residue, wherever it stands, at all lengths that there are.
func TestRunOfOthersThanResidues(t *testing.T) {
	for _, f := range fields(t) {
		for _, n := range lengths(f.P()) {
			for _, x := range noResidues(f.P()) {
				for _, at := range []int{0, n / 2, n - 1} {
					expectRefused(t, f, alone(n, at, x), api.ErrEntry)
				}
			}
		}
	}
}

// P11.1: of several errors the one that the chapter names first, one by one.
func TestRunOfSeveralErrors(t *testing.T) {
	f := small(t, 5)
	for _, c := range []struct {
		f    *field.Field
		list []uint64
		want api.Errno
	}{
		{nil, nil, api.ErrNil}, {nil, []uint64{9}, api.ErrNil}, {nil, make([]uint64, 1025), api.ErrNil},
		{f, nil, api.ErrArg}, {f, slices.Repeat([]uint64{9}, 1025), api.ErrLong}, {f, slices.Repeat([]uint64{9}, 1028), api.ErrLong},
		{f, []uint64{9, 0, 0}, api.ErrOrder}, {f, []uint64{5, 0, 0, 0, 0}, api.ErrOrder}, {f, make([]uint64, 1024), api.ErrOrder},
		{f, []uint64{1, 5}, api.ErrEntry}, {f, []uint64{5}, api.ErrEntry}, {f, []uint64{0, 1, 2, top}, api.ErrEntry},
	} {
		expectRefused(t, c.f, c.list, c.want)
	}
}

// P11.1: a list that is handed in stays as it was, the room behind it too, whatever is answered.
func TestListsStay(t *testing.T) {
	fs := []*field.Field{nil, small(t, 5), small(t, 17), known(t, 0), known(t, 5)}
	for _, f := range fs {
		for _, room := range [][]uint64{{1, 2, 3, 4, 0, 1, 2, 3, 4}, {4, 3, 2, 5, 1, 1, 1, 1, 1}, {top, 1, 1, 1, 1, 1, 1, 1, 1}} {
			same := slices.Clone(room)
			for n := range room {
				Run(f, room[:n], false)
				Run(f, room[:n], true)
				Scale(f, room[:n])
				Good(f, room[:n])
				expectSame(t, "the list", f, room, same)
			}
		}
	}
	long := mingled(known(t, 0).P(), 2*most, 8)
	same := slices.Clone(long)
	Run(known(t, 0), long[:most], true)
	Run(known(t, 0), long, true)
	expectSame(t, "the list", known(t, 0), long, same)
}

// spoil: writes over all of a list, its spare room too.
func spoil(list []uint64) {
	list = list[:cap(list)]
	for i := range list {
		list[i] = 99
	}
}

// P11.1: what is answered is new memory each time, and hangs on what is handed in alone.
func TestAnswersAreNewMemory(t *testing.T) {
	f, other := small(t, 5), small(t, 17)
	list := []uint64{1, 2, 3, 4}
	for _, call := range []func(f *field.Field) []uint64{
		func(f *field.Field) []uint64 { return transformed(t, f, list, false) },
		func(f *field.Field) []uint64 { return transformed(t, f, list, true) },
		func(f *field.Field) []uint64 { return transformed(t, f, list[:1], false) },
		func(f *field.Field) []uint64 { return transformed(t, f, list[:1], true) },
		func(f *field.Field) []uint64 { return Scale(f, list) },
		func(f *field.Field) []uint64 { return Scale(f, list[:1]) },
	} {
		first := call(f)
		want := slices.Clone(first)
		spoil(call(other))
		second := call(f)
		expectSame(t, "the same again", f, second, want)
		spoil(first)
		expectSame(t, "the other answer", f, second, want)
		expectSame(t, "the list", f, list, []uint64{1, 2, 3, 4})
	}
}

// P11.1: what is written into a list behind a call isn't seen in its answer.
func TestListsAreNotKept(t *testing.T) {
	f := small(t, 17)
	list := []uint64{1, 2, 3, 4}
	there, back, scaled := transformed(t, f, list, false), transformed(t, f, list, true), Scale(f, list)
	want := [][]uint64{sums(f, list, false), sums(f, list, true), eachTimes(list, against(4, 17), 17)}
	spoil(list)
	expectSame(t, "Run", f, there, want[0])
	expectSame(t, "inverse Run", f, back, want[1])
	expectSame(t, "Scale", f, scaled, want[2])
}

// expectThereAndBack: both transforms, one behind the other, whichever is first, are the list.
func expectThereAndBack(t *testing.T, f *field.Field, list []uint64) {
	t.Helper()
	expectSame(t, "there and back", f, transformed(t, f, transformed(t, f, list, false), true), list)
	expectSame(t, "back and there", f, transformed(t, f, transformed(t, f, list, true), false), list)
}

// P11.2: there and back, both ways round, of all fields and lengths.
func TestThereAndBack(t *testing.T) {
	ofEach(t, func(t *testing.T, f *field.Field) {
		for _, n := range lengths(f.P()) {
			for _, list := range lists(f.P(), n) {
				expectThereAndBack(t, f, list)
			}
		}
	})
}

// eachLaw: a test of each field and length, and of mingled residues: forward, and, but of most long ones, inverse.
func eachLaw(t *testing.T, test func(t *testing.T, f *field.Field, list []uint64, inverse bool)) {
	ofEach(t, func(t *testing.T, f *field.Field) {
		for _, n := range lengths(f.P()) {
			test(t, f, mingled(f.P(), n, 9), false)
			if n <= 200 || n == most {
				test(t, f, mingled(f.P(), n, 10), true)
			}
		}
	})
}

// P11.3: sums go to sums.
func TestSums(t *testing.T) {
	eachLaw(t, func(t *testing.T, f *field.Field, list []uint64, inverse bool) {
		p := f.P()
		other := mingled(p, len(list), 11)
		both := make([]uint64, len(list))
		for i := range both {
			both[i] = plus(list[i], other[i], p)
		}
		got := transformed(t, f, both, inverse)
		one, two := transformed(t, f, list, inverse), transformed(t, f, other, inverse)
		for i := range one {
			one[i] = plus(one[i], two[i], p)
		}
		expectSame(t, "sums", f, got, one)
	})
}

// P11.3: multiples go to multiples.
func TestMultiples(t *testing.T) {
	eachLaw(t, func(t *testing.T, f *field.Field, list []uint64, inverse bool) {
		p := f.P()
		of := transformed(t, f, list, inverse)
		for _, by := range []uint64{0, p - 1, mingled(p, 1, uint64(len(list)))[0]} {
			expectSame(t, "multiples", f, transformed(t, f, eachTimes(list, by, p), inverse), eachTimes(of, by, p))
		}
	})
}

// steps: by how many a list of so many is moved on: by all there are, or, of long ones, by some.
func steps(n int) []int {
	if n > 32 {
		return []int{0, 1, n / 3, n - 1}
	}
	var all []int
	for k := range n {
		all = append(all, k)
	}
	return all
}

// P11.3: moved on by k, round and round, the i-th one is w to the i k as great.
func TestMovedOn(t *testing.T) {
	eachLaw(t, func(t *testing.T, f *field.Field, list []uint64, inverse bool) {
		p, n := f.P(), len(list)
		root := rootOf(f, n, inverse)
		of := transformed(t, f, list, inverse)
		for _, k := range steps(n) {
			want := make([]uint64, n)
			for i := range want {
				want[i] = times(of[i], power(root, uint64(i*k), p), p)
			}
			moved := slices.Concat(list[n-k:], list[:n-k])
			expectSame(t, "moved on", f, transformed(t, f, moved, inverse), want)
		}
	})
}

// P11.3: twice transformed a list is its own, n times as great, with j and -j exchanged;
// of the inverse one, which is each time what makes 1 with n as great, that by n.
func TestTwice(t *testing.T) {
	eachLaw(t, func(t *testing.T, f *field.Field, list []uint64, inverse bool) {
		p, n := f.P(), len(list)
		by := uint64(n) % p
		if inverse {
			by = against(by, p)
		}
		want := make([]uint64, n)
		for j := range want {
			want[j] = times(list[(n-j)%n], by, p)
		}
		got := transformed(t, f, transformed(t, f, list, inverse), inverse)
		expectSame(t, "twice", f, got, want)
	})
}

// P11.3: the first one is the sum of all; of the inverse one, by their number.
func TestFirst(t *testing.T) {
	eachLaw(t, func(t *testing.T, f *field.Field, list []uint64, inverse bool) {
		p, total := f.P(), uint64(0)
		for _, x := range list {
			total = plus(total, x, p)
		}
		if inverse {
			total = times(total, against(uint64(len(list)), p), p)
		}
		expectSame(t, "the first one", f, transformed(t, f, list, inverse)[:1], []uint64{total})
	})
}

package radix4

import (
	"math"
	"math/big"
	"math/bits"
	"slices"
	"strconv"
	"testing"

	"epicycle/api"
	"epicycle/dft"
	"epicycle/field"
	"epicycle/proof"
	"epicycle/radix2"
	"epicycle/sieve"
)

const (
	// most is MaxPad, as the chapter writes it.
	most = 4096
	top  = math.MaxUint64
)

// Primes whose p - 1 is made of small ones: by all products of 2 to 7 that are
// short enough; by many factors, but by 2 only once, close below 2^63; by 4097.
const (
	smooth = 137043*4096*2187*3125*2401 + 1
	odd    = 9223372036854774559
	beyond = 48*4097 + 1
)

func small(t *testing.T, p uint64) *field.Field {
	t.Helper()
	f, err := field.Small(p)
	if err != api.OK {
		t.Fatalf("Small(%d): %d", p, err)
	}
	return f
}

func known(t *testing.T, i int) *field.Field {
	t.Helper()
	f, err := field.Known(i)
	if err != api.OK {
		t.Fatalf("Known(%d): %d", i, err)
	}
	return f
}

// factors: those of a number that is made of small primes.
func factors(n uint64) []proof.Power {
	var all []proof.Power
	for q := uint64(2); n > 1; q++ {
		count := 0
		for ; n%q == 0; n /= q {
			count++
		}
		if count > 0 {
			all = append(all, proof.Power{Q: q, E: count})
		}
	}
	return all
}

// proved: the field of a prime, by a number from some one on whose powers are all.
func proved(t *testing.T, p, from uint64) *field.Field {
	t.Helper()
	entry := proof.Entry{P: p, G: from, Factors: factors(p - 1)}
	for slices.ContainsFunc(entry.Factors, func(factor proof.Power) bool { return power(entry.G, (p-1)/factor.Q, p) == 1 }) {
		entry.G++
	}
	var row []proof.Entry
	for _, factor := range entry.Factors[1:] {
		ahead, _ := sieve.Row(factor.Q)
		row = append(row, ahead...)
	}
	slices.SortFunc(row, func(a, b proof.Entry) int { return bigOf(a.P).Cmp(bigOf(b.P)) })
	row = slices.CompactFunc(row, func(a, b proof.Entry) bool { return a.P == b.P })
	f, err := field.New(append(row, entry), p)
	if err != api.OK {
		t.Fatalf("New of %d: %d", p, err)
	}
	return f
}

// fields: the known ones, small ones, some by numbers that aren't the least, and great ones.
func fields(t *testing.T) []*field.Field {
	t.Helper()
	var all []*field.Field
	for i := range 6 {
		all = append(all, known(t, i))
	}
	for _, p := range []uint64{3, 5, 7, 13, 17, 31, 97, 193, 211, 257, 7681, 12289, 40961, 61441, 65521} {
		all = append(all, small(t, p))
	}
	all = append(all, proved(t, 7, 4), proved(t, 17, 6), proved(t, 12289, 5000), proved(t, 65537, 2), proved(t, beyond, 2))
	return append(all, proved(t, smooth, 2), proved(t, odd, 2))
}

// ofEach: a test of each field, all at a time.
func ofEach(t *testing.T, test func(t *testing.T, f *field.Field)) {
	t.Parallel()
	for _, f := range fields(t) {
		t.Run(strconv.FormatUint(f.P(), 10), func(t *testing.T) {
			t.Parallel()
			test(t, f)
		})
	}
}

func bigOf(a uint64) *big.Int { return new(big.Int).SetUint64(a) }

func power(x, e, p uint64) uint64 {
	return new(big.Int).Exp(bigOf(x), bigOf(e), bigOf(p)).Uint64()
}

// against: what makes 1 with a number, modulo p.
func against(x, p uint64) uint64 {
	return new(big.Int).ModInverse(bigOf(x), bigOf(p)).Uint64()
}

// times: a product modulo p, by a division.
func times(x, y, p uint64) uint64 {
	high, low := bits.Mul64(x, y)
	return bits.Rem64(high, low, p)
}

// plus: a sum modulo p, of residues.
func plus(x, y, p uint64) uint64 {
	sum, carry := bits.Add64(x, y, 0)
	return bits.Rem64(carry, sum, p)
}

// rootOf: the number whose powers the sums have, as the chapter of layer 11 says it.
func rootOf(f *field.Field, n int, inverse bool) uint64 {
	p := f.P()
	root := power(f.G(), (p-1)/uint64(n), p)
	if inverse {
		return against(root, p)
	}
	return root
}

// sums: the transform, or the inverse one, as the chapter of layer 11 says it.
func sums(f *field.Field, list []uint64, inverse bool) []uint64 {
	p, n := f.P(), len(list)
	root, by, scale := rootOf(f, n, inverse), uint64(1), uint64(1)
	if inverse {
		scale = against(uint64(n), p)
	}
	all := make([]uint64, n)
	for i := range all {
		// From the last one back, each time by one power more.
		for _, x := range slices.Backward(list) {
			all[i] = plus(times(all[i], by, p), x, p)
		}
		all[i] = times(all[i], scale, p)
		by = times(by, root, p)
	}
	return all
}

// lengths: powers of two up to MaxPad that divide p - 1.
func lengths(p uint64) []int {
	var all []int
	for _, n := range []int{1, 2, 4, 8, 16, 32, 64, 128, 256, 512, 1024, 2048, 4096} {
		if (p-1)%uint64(n) == 0 {
			all = append(all, n)
		}
	}
	return all
}

// mingled: so many residues, of each seed others.
func mingled(p uint64, n int, seed uint64) []uint64 {
	x := 88172645463325252 + seed
	all := make([]uint64, n)
	for i := range all {
		x ^= x << 13
		x ^= x >> 7
		x ^= x << 17
		all[i] = x % p
	}
	return all
}

// alone: so many noughts, and one number among them.
func alone(n, at int, x uint64) []uint64 {
	all := make([]uint64, n)
	all[at] = x
	return all
}

// lists: of residues, mingled ones, the least, the greatest, and one alone.
func lists(p uint64, n int) [][]uint64 {
	all := [][]uint64{mingled(p, n, 1)}
	if n <= 512 {
		all = append(all, mingled(p, n, 2), make([]uint64, n), slices.Repeat([]uint64{1}, n), slices.Repeat([]uint64{p - 1}, n))
		all = append(all, alone(n, 0, p-1), alone(n, n/2, 1), alone(n, n-1, p-1))
	}
	return all
}

// seeAll: hands over all lists of so many residues.
func seeAll(p uint64, n int, see func(list []uint64)) {
	list := make([]uint64, n)
	var lay func(i int)
	lay = func(i int) {
		if i == n {
			see(list)
			return
		}
		for x := range p {
			list[i] = x
			lay(i + 1)
		}
	}
	lay(0)
}

// way: a call that transforms.
type way struct {
	name string
	call func(f *field.Field, list []uint64, inverse bool) ([]uint64, api.Errno)
}

// own: the way by quarters.
func own() way {
	return way{"Run", Run}
}

// halves: layer 12's ways.
func halves() []way {
	return []way{{"radix2.Up", radix2.Up}, {"radix2.Down", radix2.Down}}
}

// transformed: what a way answers, which must be the transform of something.
func transformed(t *testing.T, w way, f *field.Field, list []uint64, inverse bool) []uint64 {
	t.Helper()
	got, err := w.call(f, list, inverse)
	if len(got) != len(list) || err != api.OK {
		t.Fatalf("%s of %d, and %d numbers, %v: %d numbers, %d", w.name, f.P(), len(list), inverse, len(got), err)
	}
	return got
}

// run: what Run answers of a list that it must transform.
func run(t *testing.T, f *field.Field, list []uint64, inverse bool) []uint64 {
	t.Helper()
	return transformed(t, own(), f, list, inverse)
}

func expectSame(t *testing.T, name string, f *field.Field, got, want []uint64) {
	t.Helper()
	if !slices.Equal(got, want) {
		t.Fatalf("%s of %d, and %d numbers: from %v on, not %v", name, f.P(), len(want), got[:min(8, len(got))], want[:min(8, len(want))])
	}
}

// expectSums: Run answers the sums, forward and inverse.
func expectSums(t *testing.T, f *field.Field, list []uint64) {
	t.Helper()
	expectSame(t, "Run", f, run(t, f, list, false), sums(f, list, false))
	expectSame(t, "inverse Run", f, run(t, f, list, true), sums(f, list, true))
}

// expectAs: Run answers what another way does, forward and inverse.
func expectAs(t *testing.T, w way, f *field.Field, list []uint64) {
	t.Helper()
	expectSame(t, "Run as "+w.name, f, run(t, f, list, false), transformed(t, w, f, list, false))
	expectSame(t, "inverse Run as "+w.name, f, run(t, f, list, true), transformed(t, w, f, list, true))
}

// expectThereAndBack: both transforms, one behind the other, whichever is first, are the list; also if layer 12 goes one of the two.
func expectThereAndBack(t *testing.T, f *field.Field, list []uint64) {
	t.Helper()
	there, back := run(t, f, list, false), run(t, f, list, true)
	for _, w := range append(halves(), own()) {
		expectSame(t, "Run there, "+w.name+" back", f, transformed(t, w, f, there, true), list)
		expectSame(t, "Run back, "+w.name+" there", f, transformed(t, w, f, back, false), list)
		expectSame(t, w.name+" there, Run back", f, run(t, f, transformed(t, w, f, list, false), true), list)
		expectSame(t, w.name+" back, Run there", f, run(t, f, transformed(t, w, f, list, true), false), list)
	}
}

// expectRefused: forward and inverse Run answers an error, and nothing beside it.
func expectRefused(t *testing.T, f *field.Field, list []uint64, want api.Errno) {
	t.Helper()
	for _, inverse := range []bool{false, true} {
		if got, err := Run(f, list, inverse); len(got) != 0 || err != want {
			t.Fatalf("Run of %d, and %d numbers, %v: %d numbers, %d, not %d", f.P(), len(list), inverse, len(got), err, want)
		}
	}
}

// P13.1: the chapter's example, and some more that are reckoned by hand.
func TestExample(t *testing.T) {
	for _, c := range []struct {
		f         *field.Field
		list, sum []uint64
	}{
		{small(t, 5), []uint64{1, 2, 3, 4}, []uint64{0, 4, 3, 2}},
		{small(t, 3), []uint64{2}, []uint64{2}},
		{small(t, 3), []uint64{2, 2}, []uint64{1, 0}},
		{small(t, 17), []uint64{1, 0}, []uint64{1, 1}},
		{small(t, 17), []uint64{5, 9}, []uint64{14, 13}},
		{small(t, 17), []uint64{0, 1, 0, 0}, []uint64{1, 13, 16, 4}},
		{small(t, 17), []uint64{0, 0, 0, 1}, []uint64{1, 4, 16, 13}},
		{small(t, 17), []uint64{0, 1, 0, 0, 0, 0, 0, 0}, []uint64{1, 9, 13, 15, 16, 8, 4, 2}},
		{small(t, 17), []uint64{0, 0, 0, 0, 0, 0, 1, 0}, []uint64{1, 4, 16, 13, 1, 4, 16, 13}},
		{small(t, 17), alone(16, 1, 1), []uint64{1, 3, 9, 10, 13, 5, 15, 11, 16, 14, 8, 7, 4, 12, 2, 6}},
		// By 6, of which the fourth power is 4, instead of 3.
		{proved(t, 17, 6), []uint64{0, 1, 0, 0}, []uint64{1, 4, 16, 13}},
	} {
		expectSame(t, "Run", c.f, run(t, c.f, c.list, false), c.sum)
		expectSame(t, "inverse Run", c.f, run(t, c.f, c.sum, true), c.list)
	}
}

// P13.1: of all fields and all lengths that there are, powers of four and twice such, the sums, forward and inverse.
func TestSums(t *testing.T) {
	ofEach(t, func(t *testing.T, f *field.Field) {
		for _, n := range lengths(f.P()) {
			for _, list := range lists(f.P(), n) {
				expectSums(t, f, list)
			}
		}
	})
}

// P13.1: lengths of both kinds, up to the longest ones, are met in known fields and small ones.
func TestBothKindsOfLengths(t *testing.T) {
	for _, f := range []*field.Field{known(t, 0), known(t, 3), known(t, 5), small(t, 12289), small(t, 40961)} {
		for _, n := range []int{1, 4, 16, 64, 256, 1024, 4096, 2, 8, 32, 128, 512, 2048} {
			p := f.P()
			list := mingled(p, n, 11)
			got := run(t, f, list, false)
			root := rootOf(f, n, false)
			// Some of the sums, each by the powers of its own.
			for _, i := range []int{0, 1, n / 4, n / 2, 3 * n / 4, n - 1} {
				i %= n
				total := uint64(0)
				for j, x := range list {
					total = plus(total, times(x, power(root, uint64(i*j), p), p), p)
				}
				if got[i] != total {
					t.Fatalf("Run of %d, and %d numbers: the %d-th is %d, not %d", p, n, i, got[i], total)
				}
			}
		}
	}
}

// P13.1: as layer 11 answers, wherever it does.
func TestAsLayer11(t *testing.T) {
	ofEach(t, func(t *testing.T, f *field.Field) {
		for _, n := range lengths(f.P()) {
			if n <= api.MaxLen {
				expectAs(t, way{"dft.Run", dft.Run}, f, mingled(f.P(), n, 3))
			}
		}
	})
}

// P13.1, P13.2: of the least primes, all lists that there are.
func TestAllLists(t *testing.T) {
	for _, c := range []struct {
		p uint64
		n int
	}{{3, 1}, {3, 2}, {5, 1}, {5, 2}, {5, 4}, {7, 1}, {7, 2}, {11, 2}, {13, 1}, {13, 2}, {13, 4}, {17, 2}, {97, 2}} {
		f := small(t, c.p)
		seeAll(c.p, c.n, func(list []uint64) {
			expectSums(t, f, list)
			expectThereAndBack(t, f, list)
		})
	}
}

// P13.1: of one number both transforms are that number.
func TestOneNumber(t *testing.T) {
	for _, f := range fields(t) {
		for _, x := range []uint64{0, 1, 2, f.P() / 2, f.P() - 2, f.P() - 1} {
			expectSame(t, "Run", f, run(t, f, []uint64{x}, false), []uint64{x})
			expectSame(t, "inverse Run", f, run(t, f, []uint64{x}, true), []uint64{x})
		}
	}
}

// P13.1: of two numbers the transform is their sum and their difference; the inverse one, half of these.
func TestTwoNumbers(t *testing.T) {
	for _, f := range fields(t) {
		p := f.P()
		half := against(2, p)
		for _, list := range [][]uint64{{0, 0}, {0, 1}, {1, 0}, {1, 1}, {p - 1, 0}, {0, p - 1}, {p - 1, p - 1}, {1, p - 1}, {p / 2, p/2 + 1}, mingled(p, 2, 4)} {
			want := []uint64{plus(list[0], list[1], p), plus(list[0], p-list[1], p)}
			halved := []uint64{times(want[0], half, p), times(want[1], half, p)}
			expectSame(t, "Run", f, run(t, f, list, false), want)
			expectSame(t, "inverse Run", f, run(t, f, list, true), halved)
		}
	}
}

// P13.1: of one 1 among noughts the transform is the root's powers, by as many steps as its place; wherever it is.
func TestOneAlone(t *testing.T) {
	ofEach(t, func(t *testing.T, f *field.Field) {
		for _, n := range lengths(f.P()) {
			// Of long lists, at some places.
			step := max(1, n/64-1)
			for at := 0; at < n; at += step {
				expectPowers(t, f, n, at)
			}
		}
	})
}

// expectPowers: of one 1 among noughts Run answers powers, each of which is reckoned from the one ahead of it.
func expectPowers(t *testing.T, f *field.Field, n, at int) {
	t.Helper()
	p := f.P()
	for _, inverse := range []bool{false, true} {
		by := power(rootOf(f, n, inverse), uint64(at), p)
		x := uint64(1)
		if inverse {
			x = against(uint64(n), p)
		}
		want := make([]uint64, n)
		for i := range want {
			want[i] = x
			x = times(x, by, p)
		}
		expectSame(t, "Run", f, run(t, f, alone(n, at, 1), inverse), want)
	}
}

// P13.1: just MaxPad numbers are transformed, if there is a root.
func TestJustMaxPad(t *testing.T) {
	met := 0
	for _, f := range fields(t) {
		list := slices.Repeat([]uint64{f.P() - 1}, most)
		if (f.P()-1)%most != 0 {
			expectRefused(t, f, list, api.ErrOrder)
			continue
		}
		met++
		// The first one is the sum of all; the others are multiples of the sum of all powers of a root, which is 0.
		expectSame(t, "Run", f, run(t, f, list, false), alone(most, 0, f.P()-most%f.P()))
		expectSame(t, "inverse Run", f, run(t, f, list, true), alone(most, 0, f.P()-1))
		expectThereAndBack(t, f, list)
	}
	if met < 8 {
		t.Fatalf("only %d fields have roots of %d", met, most)
	}
}

// noResidues: numbers that aren't residues.
func noResidues(p uint64) []uint64 {
	return []uint64{p, p + 1, 2*p - 1, 2 * p, 1 << 63, top / p * p, top - 1, top}
}

// P13.1: ErrNil of a nil field, whatever the list, and ahead of all other errors.
func TestNilField(t *testing.T) {
	noughts, greatest := make([]uint64, 2*most+1), slices.Repeat([]uint64{top}, 2*most+1)
	for n := range noughts {
		expectRefused(t, nil, noughts[:n], api.ErrNil)
		expectRefused(t, nil, greatest[:n], api.ErrNil)
	}
	expectRefused(t, nil, nil, api.ErrNil)
}

// P13.1: ErrArg of an empty list.
func TestNothing(t *testing.T) {
	for _, f := range fields(t) {
		expectRefused(t, f, nil, api.ErrArg)
		expectRefused(t, f, []uint64{}, api.ErrArg)
		expectRefused(t, f, []uint64{1, top}[:0], api.ErrArg)
	}
}

// P13.1: ErrLong of more than MaxPad, whether or not their number is a power of two, or divides p - 1, and they are residues.
func TestLongLists(t *testing.T) {
	for _, f := range fields(t) {
		for _, n := range []int{most + 1, most + 2, 3 * most / 2, 2*most - 1, 2 * most, 3 * most, 4 * most, 1 << 16} {
			expectRefused(t, f, make([]uint64, n), api.ErrLong)
			expectRefused(t, f, slices.Repeat([]uint64{top}, n), api.ErrLong)
		}
	}
	if !proved(t, beyond, 2).Divides(most+1) || !known(t, 0).Divides(2*most) || small(t, 17).Divides(most+1) {
		t.Fatal("the lengths are none of both kinds")
	}
}

// P13.1: of all lengths up to MaxPad, ErrOrder of those that don't divide p - 1, and ErrKind of others that are no powers of two;
// both ahead of ErrEntry.
func TestOtherLengths(t *testing.T) {
	ofEach(t, func(t *testing.T, f *field.Field) {
		p := f.P()
		noughts, others := make([]uint64, most), slices.Repeat([]uint64{p}, most)
		fit := lengths(p)
		for n := 1; n <= most; n++ {
			want := api.ErrKind
			if (p-1)%uint64(n) != 0 {
				want = api.ErrOrder
			} else if slices.Contains(fit, n) {
				continue
			}
			expectRefused(t, f, noughts[:n], want)
			expectRefused(t, f, others[:n], want)
		}
	})
}

// P13.1: ErrEntry, if one is no residue, wherever it stands, at all lengths that there are.
func TestOthersThanResidues(t *testing.T) {
	for _, f := range fields(t) {
		for _, n := range lengths(f.P()) {
			for _, x := range noResidues(f.P()) {
				for _, at := range []int{0, n / 4, n / 2, n - 1} {
					expectRefused(t, f, alone(n, at, x), api.ErrEntry)
				}
			}
		}
	}
}

// P13.1: of several errors the one that the chapter names first, one by one.
func TestSeveralErrors(t *testing.T) {
	five, seven := small(t, 5), small(t, 7)
	for _, c := range []struct {
		f    *field.Field
		list []uint64
		want api.Errno
	}{
		{nil, nil, api.ErrNil}, {nil, []uint64{9}, api.ErrNil}, {nil, []uint64{9, 9, 9}, api.ErrNil}, {nil, make([]uint64, 4097), api.ErrNil},
		{five, nil, api.ErrArg}, {five, slices.Repeat([]uint64{9}, 4097), api.ErrLong}, {five, make([]uint64, 4100), api.ErrLong}, {five, make([]uint64, 8192), api.ErrLong},
		{five, []uint64{9, 0, 0}, api.ErrOrder}, {five, make([]uint64, 3), api.ErrOrder}, {five, make([]uint64, 8), api.ErrOrder}, {five, slices.Repeat([]uint64{9}, 4096), api.ErrOrder},
		{seven, []uint64{7, 0, 0}, api.ErrKind}, {seven, make([]uint64, 3), api.ErrKind}, {seven, make([]uint64, 6), api.ErrKind}, {seven, slices.Repeat([]uint64{9}, 6), api.ErrKind},
		{seven, []uint64{1, 7}, api.ErrEntry}, {five, []uint64{5}, api.ErrEntry}, {five, []uint64{0, 1, 2, top}, api.ErrEntry}, {five, []uint64{5, 1, 2, 3}, api.ErrEntry},
	} {
		expectRefused(t, c.f, c.list, c.want)
	}
}

// P13.1: a list that is handed in stays as it was, the room behind it too, whatever is answered.
func TestListsStay(t *testing.T) {
	for _, f := range []*field.Field{nil, small(t, 5), small(t, 7), small(t, 17), known(t, 0), known(t, 5)} {
		for _, room := range [][]uint64{{1, 2, 3, 4, 0, 1, 2, 3, 4}, {4, 3, 2, 5, 1, 1, 1, 1, 1}, {top, 1, 1, 1, 1, 1, 1, 1, 1}} {
			same := slices.Clone(room)
			for n := range room {
				Run(f, room[:n], false)
				Run(f, room[:n], true)
				expectSame(t, "the list", f, room, same)
			}
		}
	}
	f := known(t, 0)
	long := mingled(f.P(), 2*most, 5)
	same := slices.Clone(long)
	for _, n := range []int{1, 2, 3, most / 4, most / 2, most, 2 * most} {
		Run(f, long[:n], false)
		Run(f, long[:n], true)
		expectSame(t, "the list", f, long, same)
	}
}

// spoil: writes over all of a list, its spare room too.
func spoil(list []uint64) {
	list = list[:cap(list)]
	for i := range list {
		list[i] = 99
	}
}

// P13.1: what is answered is new memory each time, and hangs on what is handed in alone.
func TestAnswersAreNewMemory(t *testing.T) {
	f, other := small(t, 17), small(t, 97)
	for _, n := range []int{1, 2, 4, 8, 16} {
		list := mingled(17, n, 6)
		same := slices.Clone(list)
		for _, inverse := range []bool{false, true} {
			first := run(t, f, list, inverse)
			want := slices.Clone(first)
			spoil(run(t, other, list, inverse))
			second := run(t, f, list, inverse)
			expectSame(t, "the same again", f, second, want)
			spoil(first)
			expectSame(t, "the other answer", f, second, want)
			expectSame(t, "the list", f, list, same)
		}
	}
}

// P13.1: what is written into a list behind a call isn't seen in its answer.
func TestListsAreNotKept(t *testing.T) {
	f := small(t, 17)
	for _, n := range []int{1, 2, 4, 8, 16} {
		list := mingled(17, n, 7)
		want := [][]uint64{sums(f, list, false), sums(f, list, true)}
		there, back := run(t, f, list, false), run(t, f, list, true)
		spoil(list)
		expectSame(t, "Run", f, there, want[0])
		expectSame(t, "inverse Run", f, back, want[1])
	}
}

// many: more lists of residues than the sums are reckoned of.
func many(p uint64, n int) [][]uint64 {
	all := append(lists(p, n), make([]uint64, n), slices.Repeat([]uint64{p - 1}, n), alone(n, n-1, p-1), alone(n, 1%n, 1), alone(n, n/4, p/2))
	for seed := range uint64(8) {
		all = append(all, mingled(p, n, 20+seed))
	}
	return all
}

// P13.2: what both of layer 12's ways answer, of all fields and lengths.
func TestAsLayer12(t *testing.T) {
	ofEach(t, func(t *testing.T, f *field.Field) {
		for _, n := range lengths(f.P()) {
			for _, list := range many(f.P(), n) {
				for _, w := range halves() {
					expectAs(t, w, f, list)
				}
			}
		}
	})
}

// P13.2: what both of layer 12's ways refuse, by the same errors.
func TestRefusedAsLayer12(t *testing.T) {
	for _, f := range append(fields(t), nil) {
		for _, n := range []int{0, 1, 2, 3, 4, 5, 6, 7, 8, 12, 16, 24, 32, 64, 96, 1024, 3072, 4095, 4096, 4097, 8192} {
			list := slices.Repeat([]uint64{top}, n)
			for _, w := range halves() {
				_, want := w.call(f, list, false)
				expectRefused(t, f, list, want)
			}
		}
	}
}

// P13.2: there and back to the list, by quarters alone and with halves, of all fields and lengths.
func TestThereAndBack(t *testing.T) {
	ofEach(t, func(t *testing.T, f *field.Field) {
		for _, n := range lengths(f.P()) {
			for _, list := range many(f.P(), n) {
				expectThereAndBack(t, f, list)
			}
		}
	})
}

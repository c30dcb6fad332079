package twiddle

import (
	"math"
	"math/big"
	"math/bits"
	"slices"
	"testing"

	"epicycle/api"
	"epicycle/field"
	"epicycle/proof"
	"epicycle/sieve"
)

const (
	// most is MaxPad, as the chapter writes it.
	most = 4096
	top  = math.MaxUint64
)

// Primes whose p - 1 is made of small ones: by all products of 2 to 7 that are
// short enough, just below 2^63; by 4097; by many factors, but by 2 only once.
const (
	smooth = 137043*4096*2187*3125*2401 + 1
	beyond = 48*4097 + 1
	odd    = 9223372036854774559
)

func small(t *testing.T, p uint64) *field.Field {
	t.Helper()
	f, err := field.Small(p)
	if err != api.OK {
		t.Fatalf("Small(%d): %d", p, err)
	}
	return f
}

func known(t *testing.T, i int) *field.Field {
	t.Helper()
	f, err := field.Known(i)
	if err != api.OK {
		t.Fatalf("Known(%d): %d", i, err)
	}
	return f
}

// factors: those of a number that is made of small primes.
func factors(n uint64) []proof.Power {
	var all []proof.Power
	for q := uint64(2); n > 1; q++ {
		count := 0
		for ; n%q == 0; n /= q {
			count++
		}
		if count > 0 {
			all = append(all, proof.Power{Q: q, E: count})
		}
	}
	return all
}

// proved: the field of a prime, by a number from some one on whose powers are all.
func proved(t *testing.T, p, from uint64) *field.Field {
	t.Helper()
	entry := proof.Entry{P: p, G: from, Factors: factors(p - 1)}
	for slices.ContainsFunc(entry.Factors, func(factor proof.Power) bool { return power(entry.G, (p-1)/factor.Q, p) == 1 }) {
		entry.G++
	}
	var row []proof.Entry
	for _, factor := range entry.Factors[1:] {
		ahead, _ := sieve.Row(factor.Q)
		row = append(row, ahead...)
	}
	slices.SortFunc(row, func(a, b proof.Entry) int { return bigOf(a.P).Cmp(bigOf(b.P)) })
	row = slices.CompactFunc(row, func(a, b proof.Entry) bool { return a.P == b.P })
	f, err := field.New(append(row, entry), p)
	if err != api.OK {
		t.Fatalf("New of %d: %d", p, err)
	}
	return f
}

// fields: the known ones, small ones, some by numbers that aren't the least, and great ones.
func fields(t *testing.T) []*field.Field {
	t.Helper()
	var all []*field.Field
	for i := range 6 {
		all = append(all, known(t, i))
	}
	for _, p := range []uint64{3, 5, 7, 13, 17, 31, 97, 211, 257, 7681, 12289, 40961, 65521} {
		all = append(all, small(t, p))
	}
	all = append(all, proved(t, 7, 4), proved(t, 17, 6), proved(t, 12289, 5000), proved(t, 65521, 65000))
	return append(all, proved(t, smooth, 2), proved(t, beyond, 2), proved(t, odd, 2))
}

func bigOf(a uint64) *big.Int { return new(big.Int).SetUint64(a) }

func power(x, e, p uint64) uint64 {
	return new(big.Int).Exp(bigOf(x), bigOf(e), bigOf(p)).Uint64()
}

// times: a product modulo p, by a division.
func times(x, y, p uint64) uint64 {
	high, low := bits.Mul64(x, y)
	return bits.Rem64(high, low, p)
}

// powersOf: so many powers of a number, from the 0-th one on.
func powersOf(x uint64, count int, p uint64) []uint64 {
	var list []uint64
	power := uint64(1)
	for range count {
		list = append(list, power)
		power = times(power, x, p)
	}
	return list
}

// orderOf: the least exponent, from 1 on up to a bound, of a number's powers that are 1; 0, if there is none.
func orderOf(x uint64, upto int, p uint64) int {
	power := uint64(1)
	for e := 1; e <= upto; e++ {
		power = times(power, x, p)
		if power == 1 {
			return e
		}
	}
	return 0
}

// isTable: what the chapter says that Verify answers. Only the second number,
// or, of a lone one, 1 can be the number whose powers they are.
func isTable(table []uint64, p uint64) bool {
	n := len(table)
	if n < 1 || n > most || slices.ContainsFunc(table, func(x uint64) bool { return x >= p }) {
		return false
	}
	x := uint64(1)
	if n > 1 {
		x = table[1]
	}
	return orderOf(x, n, p) == n && slices.Equal(table, powersOf(x, n, p))
}

// lengths: numbers up to MaxPad that divide p - 1.
func lengths(p uint64) []int {
	var all []int
	for n := 1; n <= most; n++ {
		if (p-1)%uint64(n) == 0 {
			all = append(all, n)
		}
	}
	return all
}

func expectRoot(t *testing.T, f *field.Field, n int, inverse bool, want uint64) {
	t.Helper()
	if got, err := Root(f, n, inverse); got != want || err != api.OK {
		t.Fatalf("Root of %d, %d, %v: %d, %d, not %d", f.P(), n, inverse, got, err, want)
	}
}

func expectTable(t *testing.T, f *field.Field, n int, inverse bool, want []uint64) {
	t.Helper()
	if got, err := Table(f, n, inverse); !slices.Equal(got, want) || err != api.OK {
		t.Fatalf("Table of %d, %d, %v: %d: not what it should be", f.P(), n, inverse, err)
	}
}

func expectLifted(t *testing.T, f *field.Field, n int, inverse bool, want []uint64) {
	t.Helper()
	if got, err := Lifted(f, n, inverse); !slices.Equal(got, want) || err != api.OK {
		t.Fatalf("Lifted of %d, %d, %v: %d: not what it should be", f.P(), n, inverse, err)
	}
}

// expectRefused: all three calls, forward and inverse, answer an error, and nothing beside it.
func expectRefused(t *testing.T, f *field.Field, n int, want api.Errno) {
	t.Helper()
	for _, inverse := range []bool{false, true} {
		if got, err := Root(f, n, inverse); got != 0 || err != want {
			t.Fatalf("Root of %d, %d, %v: %d, %d, not %d", f.P(), n, inverse, got, err, want)
		}
		if got, err := Table(f, n, inverse); len(got) != 0 || err != want {
			t.Fatalf("Table of %d, %d, %v: %v, %d, not %d", f.P(), n, inverse, got, err, want)
		}
		if got, err := Lifted(f, n, inverse); len(got) != 0 || err != want {
			t.Fatalf("Lifted of %d, %d, %v: %v, %d, not %d", f.P(), n, inverse, got, err, want)
		}
	}
}

func expectVerify(t *testing.T, f *field.Field, table []uint64, want bool) {
	t.Helper()
	if got := Verify(f, table); got != want {
		t.Fatalf("Verify of %d, and %d numbers, from %v on: %v", f.P(), len(table), table[:min(8, len(table))], got)
	}
}

// lift: what stands for a number.
func lift(x, p uint64) uint64 {
	return bits.Rem64(x, 0, p)
}

// P10.1: the chapter's example.
func TestExample(t *testing.T) {
	f := small(t, 17)
	expectRoot(t, f, 4, false, 13)
	expectRoot(t, f, 4, true, 4)
	expectTable(t, f, 4, false, []uint64{1, 13, 16, 4})
	expectTable(t, f, 4, true, []uint64{1, 4, 16, 13})
	// 2^64 is 1 modulo 17, since 2^8 is.
	expectLifted(t, f, 4, false, []uint64{1, 13, 16, 4})
	expectLifted(t, f, 4, true, []uint64{1, 4, 16, 13})
	expectVerify(t, f, []uint64{1, 13, 16, 4}, true)
	expectVerify(t, f, []uint64{1, 4, 16, 13}, true)
	// 2^64 is 2 modulo 7, since 2^3 is 1.
	expectTable(t, small(t, 7), 6, false, []uint64{1, 3, 2, 6, 4, 5})
	expectLifted(t, small(t, 7), 6, false, []uint64{2, 6, 4, 5, 1, 3})
	expectLifted(t, small(t, 7), 6, true, []uint64{2, 3, 1, 5, 4, 6})
}

// P10.1: of all fields and all lengths that there are, the roots, forward and inverse, are what G's powers say.
func TestRoot(t *testing.T) {
	for _, f := range fields(t) {
		p := f.P()
		for _, n := range lengths(p) {
			root := power(f.G(), (p-1)/uint64(n), p)
			back := new(big.Int).ModInverse(bigOf(root), bigOf(p)).Uint64()
			expectRoot(t, f, n, false, root)
			expectRoot(t, f, n, true, back)
			if of, err := f.Root(n); of != root || err != api.OK || times(root, back, p) != 1 {
				t.Fatalf("of %d, %d: layer 6 answers %d, %d", p, n, of, err)
			}
		}
	}
}

// P10.1: at the edges of what a length may be: 1, 2, p - 1, and just MaxPad.
func TestRootAtTheEdges(t *testing.T) {
	for _, f := range fields(t) {
		for _, inverse := range []bool{false, true} {
			expectRoot(t, f, 1, inverse, 1)
			expectRoot(t, f, 2, inverse, f.P()-1)
			expectTable(t, f, 1, inverse, []uint64{1})
			expectTable(t, f, 2, inverse, []uint64{1, f.P() - 1})
			expectLifted(t, f, 1, inverse, []uint64{lift(1, f.P())})
		}
	}
	expectRoot(t, small(t, 3), 2, false, 2)
	expectRoot(t, small(t, 7), 6, false, 3)
	expectRoot(t, small(t, 7), 6, true, 5)
	expectRoot(t, small(t, 257), 256, false, 3)
	expectRoot(t, small(t, 12289), most, false, 11*11*11)
	expectRoot(t, small(t, 12289), most, true, power(1331, 12287, 12289))
	// Of another number whose powers are all the root is that one's.
	expectRoot(t, proved(t, 17, 6), 4, false, 4)
	expectTable(t, proved(t, 17, 6), 4, false, []uint64{1, 4, 16, 13})
	expectTable(t, proved(t, 17, 6), 4, true, []uint64{1, 13, 16, 4})
	expectRoot(t, proved(t, 7, 4), 6, false, 5)
}

// P10.1: ErrNil of a nil field, whatever the length, and ahead of all other errors.
func TestNilField(t *testing.T) {
	for n := -70; n <= most+70; n++ {
		expectRefused(t, nil, n, api.ErrNil)
	}
	for _, n := range []int{math.MinInt, -most, 8192, 1 << 32, math.MaxInt} {
		expectRefused(t, nil, n, api.ErrNil)
	}
}

// P10.1: ErrArg of lengths below 1, also of those whose opposite divides p - 1.
func TestLengthsBelowOne(t *testing.T) {
	for _, f := range fields(t) {
		for n := -most - 2; n < 1; n++ {
			expectRefused(t, f, n, api.ErrArg)
		}
		for _, n := range []int{math.MinInt, math.MinInt + 1, -1 << 32, -int(f.P() - 1), -int(f.P())} {
			expectRefused(t, f, n, api.ErrArg)
		}
	}
}

// P10.1: ErrLong of lengths above MaxPad, whether or not they divide p - 1.
func TestLongLengths(t *testing.T) {
	for _, f := range fields(t) {
		for _, n := range []int{most + 1, most + 2, 2*most - 1, 2 * most, 3 * most, 1<<16 + 1, 1 << 32, 1<<32 + 1, 1<<32 + 4, 1 << 55, 1 << 62, math.MaxInt} {
			expectRefused(t, f, n, api.ErrLong)
		}
		for _, n := range []int{int(f.P() - 1), int(f.P()-1) / 2} {
			if n > most {
				expectRefused(t, f, n, api.ErrLong)
			}
		}
	}
	for _, c := range []struct {
		f *field.Field
		n int
	}{{proved(t, beyond, 2), 4097}, {small(t, 40961), 8192}, {small(t, 12289), 12288}, {small(t, 7681), 7680}, {known(t, 0), 1 << 57}} {
		if !c.f.Divides(c.n) {
			t.Fatalf("%d doesn't divide %d", c.n, c.f.P()-1)
		}
		expectRefused(t, c.f, c.n, api.ErrLong)
	}
}

// P10.1: ErrOrder of all lengths up to MaxPad, itself too, that don't divide p - 1, and of no others.
func TestLengthsThatDoNotDivide(t *testing.T) {
	for _, f := range fields(t) {
		fit := lengths(f.P())
		for n := 1; n <= most; n++ {
			if !slices.Contains(fit, n) {
				expectRefused(t, f, n, api.ErrOrder)
			}
		}
	}
	for _, p := range []uint64{3, 17, 257, 7681, 65521, odd} {
		expectRefused(t, proved(t, p, 2), most, api.ErrOrder)
	}
	expectRefused(t, small(t, 17), 3, api.ErrOrder)
	expectRefused(t, small(t, 17), 17, api.ErrOrder)
	expectRefused(t, small(t, 17), 32, api.ErrOrder)
}

// P10.1: tables, and what stands for them, of all fields and lengths, forward and inverse.
func TestTables(t *testing.T) {
	for _, f := range fields(t) {
		p := f.P()
		for _, n := range lengths(p) {
			for _, inverse := range []bool{false, true} {
				root := power(f.G(), (p-1)/uint64(n), p)
				if inverse {
					root = power(root, uint64(n)-1, p)
				}
				want := powersOf(root, n, p)
				expectTable(t, f, n, inverse, want)
				for i, x := range want {
					want[i] = lift(x, p)
				}
				expectLifted(t, f, n, inverse, want)
			}
		}
	}
}

// P10.1: the inverse table is the other one, backwards behind its first number, and each makes 1 with it.
func TestInverseTables(t *testing.T) {
	for _, f := range fields(t) {
		for _, n := range lengths(f.P()) {
			table, _ := Table(f, n, false)
			other, _ := Table(f, n, true)
			for i := range n {
				if other[i] != table[(n-i)%n] || f.Mul(table[i], other[i]) != 1 {
					t.Fatalf("of %d, %d, at %d: %d, %d", f.P(), n, i, table[i], other[i])
				}
			}
		}
	}
}

// P10.1: what is lifted is a product's factor, as layer 6 has it.
func TestLiftedAreFactors(t *testing.T) {
	for _, f := range fields(t) {
		for _, n := range lengths(f.P()) {
			table, _ := Table(f, n, true)
			lifted, _ := Lifted(f, n, true)
			for i, x := range lifted {
				if x != f.Lift(table[i]) || f.Times(x, 1) != table[i] || f.Times(x, top) != f.Mul(table[i], top) {
					t.Fatalf("of %d, %d, at %d: %d", f.P(), n, i, x)
				}
			}
		}
	}
}

// P10.1: the lists that are answered are new memory each time, and fields know nothing of one another.
func TestAnswersAreNewMemory(t *testing.T) {
	f, other := small(t, 17), known(t, 0)
	for range 3 {
		table, _ := Table(f, 4, false)
		expectTable(t, other, 4, false, powersOf(power(3, (other.P()-1)/4, other.P()), 4, other.P()))
		lifted, _ := Lifted(f, 4, false)
		if !slices.Equal(table, []uint64{1, 13, 16, 4}) || !slices.Equal(lifted, []uint64{1, 13, 16, 4}) {
			t.Fatalf("%v, %v", table, lifted)
		}
		spoil(table)
		if !slices.Equal(lifted, []uint64{1, 13, 16, 4}) {
			t.Fatalf("what stands for them shares the table's memory: %v", lifted)
		}
		spoil(lifted)
	}
}

// spoil: writes over all of a list, its spare room too.
func spoil(list []uint64) {
	list = list[:cap(list)]
	for i := range list {
		list[i] = 99
	}
}

// P10.1: Verify changes nothing of the table, nor of the room behind it, and asks nothing of it.
func TestVerifyLeavesTheTable(t *testing.T) {
	f := small(t, 17)
	room := []uint64{1, 13, 16, 4, 1, 13, 99}
	for n := range len(room) + 1 {
		expectVerify(t, f, room[:n], n == 1 || n == 4)
		if !slices.Equal(room, []uint64{1, 13, 16, 4, 1, 13, 99}) {
			t.Fatalf("behind Verify of %d: %v", n, room)
		}
	}
}

// P10.2: Verify is true of each table, forward and inverse, of all fields and lengths.
func TestVerifyOfTables(t *testing.T) {
	for _, f := range fields(t) {
		for _, n := range lengths(f.P()) {
			for _, inverse := range []bool{false, true} {
				table, _ := Table(f, n, inverse)
				expectVerify(t, f, table, true)
			}
		}
	}
}

// P10.1: Verify is false of a nil field, of what is a table of others too.
func TestVerifyOfNilField(t *testing.T) {
	for _, f := range fields(t) {
		for _, n := range []int{1, 2, 3, 4, 5, 6, 64, most} {
			table, _ := Table(f, n, false)
			expectVerify(t, nil, table, false)
		}
	}
	expectVerify(t, nil, nil, false)
	expectVerify(t, nil, []uint64{0}, false)
	expectVerify(t, nil, []uint64{1}, false)
	expectVerify(t, nil, make([]uint64, most+1), false)
}

// P10.1: Verify is false of no numbers.
func TestVerifyOfNothing(t *testing.T) {
	for _, f := range fields(t) {
		expectVerify(t, f, nil, false)
		expectVerify(t, f, []uint64{}, false)
		expectVerify(t, f, []uint64{1}[:0], false)
	}
}

// P10.1: of one number Verify is true if it is 1, and of no other, one that is 1 modulo p neither.
func TestVerifyOfOneNumber(t *testing.T) {
	for _, f := range fields(t) {
		p := f.P()
		expectVerify(t, f, []uint64{1}, true)
		for _, x := range []uint64{0, 2, p - 1, p, p + 1, 2*p + 1, top, top/p*p + 1 - p} {
			expectVerify(t, f, []uint64{x}, false)
		}
	}
}

// P10.1: just MaxPad numbers may be a table; more are none, though they are all powers of a number of that order.
func TestVerifyOfLongTables(t *testing.T) {
	for _, c := range []struct {
		f *field.Field
		n int
	}{{proved(t, beyond, 2), 4097}, {small(t, 40961), 8192}, {small(t, 12289), 6144}, {small(t, 12289), 12288}, {known(t, 1), 3 * 2048}, {known(t, 2), 5 * 1024}} {
		p := c.f.P()
		table := powersOf(power(c.f.G(), (p-1)/uint64(c.n), p), c.n, p)
		if orderOf(table[1], c.n, p) != c.n {
			t.Fatalf("of %d: %d is no order", p, c.n)
		}
		expectVerify(t, c.f, table, false)
		expectVerify(t, c.f, table[:most], false)
	}
	for _, f := range []*field.Field{small(t, 12289), small(t, 40961), known(t, 0), known(t, 4), proved(t, smooth, 2)} {
		p := f.P()
		table := powersOf(power(f.G(), (p-1)/most, p), 3*most, p)
		expectVerify(t, f, table[:most], true)
		for _, n := range []int{1025, most / 2, most - 1, most + 1, most + 2, 2 * most, 3 * most} {
			expectVerify(t, f, table[:n], false)
		}
	}
}

// turned: what stands in the place of a number of a table, other than it.
func turned(x, p uint64) []uint64 {
	all := []uint64{0, 1, 2, x + 1, x - 1, p - x, p - 1, p, p + 1, x + p, 1 << 63, top}
	return slices.DeleteFunc(all, func(other uint64) bool { return other == x })
}

// P10.1: with one number turned, at whichever place, it is no table; x + p, which isn't a residue, is another number than x.
func TestVerifyOfOneTurned(t *testing.T) {
	for _, f := range fields(t) {
		p := f.P()
		for _, n := range lengths(p) {
			table, _ := Table(f, n, n%2 == 0)
			for i := 0; i < n; i += 1 + n/40 {
				turnEach(t, f, table, i)
			}
			turnEach(t, f, table, 1%n)
			turnEach(t, f, table, n/2)
			turnEach(t, f, table, n-1)
		}
	}
}

// turnEach: no number in the place of one makes a table.
func turnEach(t *testing.T, f *field.Field, table []uint64, i int) {
	t.Helper()
	x := table[i]
	for _, other := range turned(x, f.P()) {
		table[i] = other
		if Verify(f, table) {
			t.Fatalf("of %d, and %d numbers: %d at %d makes a table", f.P(), len(table), other, i)
		}
	}
	table[i] = x
	expectVerify(t, f, table, true)
}

// P10.1: tables of other lists than powers in order: exchanged, moved on, backwards, without one, with one more.
func TestVerifyOfOtherOrders(t *testing.T) {
	for _, f := range fields(t) {
		p := f.P()
		for _, n := range lengths(p) {
			if n > 100 && n != most {
				continue
			}
			table, _ := Table(f, n, false)
			lists := [][]uint64{
				slices.Concat(table[1:], table[:1]), slices.Concat(table[n-1:], table[:n-1]),
				table[1:], table[:n-1], slices.Concat(table, table), slices.Concat(table, table[:1]),
				slices.Concat(table[:1], table), slices.Concat(table, []uint64{0}), slices.Concat([]uint64{0}, table),
				slices.Delete(slices.Clone(table), n/2, n/2+1), slices.Insert(slices.Clone(table), n/2, table[n/2]),
				slices.Repeat([]uint64{1}, n), make([]uint64, n), slices.Repeat([]uint64{p - 1}, n), slices.Repeat([]uint64{1, p - 1}, n),
			}
			swapped, reversed := slices.Clone(table), slices.Clone(table)
			swapped[n-1], swapped[n/2] = swapped[n/2], swapped[n-1]
			slices.Reverse(reversed)
			for _, list := range append(lists, swapped, reversed) {
				expectVerify(t, f, list, isTable(list, p))
			}
		}
	}
}

// seeAll: hands over all lists of so many numbers up to some one.
func seeAll(count int, upto uint64, see func(list []uint64)) {
	list := make([]uint64, count)
	var lay func(i int)
	lay = func(i int) {
		if i == count {
			see(list)
			return
		}
		for x := range upto + 1 {
			list[i] = x
			lay(i + 1)
		}
	}
	lay(0)
}

// P10.1, P10.2: of all lists that there are, up to a length and a number, of the
// least primes, those are tables that are powers of a number of their order.
func TestVerifyOfAllLists(t *testing.T) {
	for _, c := range []struct{ p, upto, most uint64 }{{3, 8, 5}, {5, 7, 6}, {7, 8, 6}, {13, 14, 4}, {17, 18, 4}} {
		f := small(t, c.p)
		for count := range int(c.most) + 1 {
			var tables [][]uint64
			for x := range c.p {
				if count > 0 && orderOf(x, count, c.p) == count {
					tables = append(tables, powersOf(x, count, c.p))
				}
			}
			seeAll(count, c.upto, func(list []uint64) {
				want := slices.ContainsFunc(tables, func(table []uint64) bool { return slices.Equal(table, list) })
				expectVerify(t, f, list, want)
			})
		}
	}
}

// P10.1: of all numbers modulo small primes, and all lengths: so many powers are a table
// just if they are the order; one alone, which is 1, is one of any number.
func TestVerifyOfAllPowers(t *testing.T) {
	for _, p := range []uint64{3, 5, 7, 11, 13, 17, 19, 31, 37, 61, 73, 97, 181, 257} {
		f := small(t, p)
		upto := min(2*int(p), 300)
		for x := range p {
			powers := powersOf(x, upto, p)
			order := orderOf(x, upto, p)
			for n := 1; n <= upto; n++ {
				expectVerify(t, f, powers[:n], n == 1 || n == order)
			}
		}
	}
}

// P10.1: of powers of roots, of all fields: as many as their order are a table,
// and, but for one alone, no more and no fewer.
func TestVerifyOfOtherLengths(t *testing.T) {
	for _, f := range fields(t) {
		p := f.P()
		fit := lengths(p)
		for _, order := range fit {
			powers := powersOf(power(f.G(), (p-1)/uint64(order), p), most+2, p)
			for _, n := range append([]int{1, order - 1, order, order + 1, 2 * order, 3 * order, most - 1, most, most + 1}, fit...) {
				if n <= most+2 {
					expectVerify(t, f, powers[:n], n == 1 || n == order)
				}
			}
		}
		// Neither G's own powers, nor those of 0, come round so soon.
		for _, x := range []uint64{f.G(), 0} {
			if orderOf(x, most, p) == 0 {
				expectVerify(t, f, powersOf(x, most, p), false)
				expectVerify(t, f, powersOf(x, 2, p), false)
			}
		}
	}
}

// P10.2: of small primes, whatever is verified has all numbers that are 1 by the length, each once.
func TestVerifiedHaveAllThatAreOne(t *testing.T) {
	for _, p := range []uint64{3, 5, 7, 13, 17, 31, 61, 97, 181, 211, 257} {
		f := small(t, p)
		for n := 1; n <= int(p)+1; n++ {
			var all []uint64
			for x := range p {
				if power(x, uint64(n), p) == 1 {
					all = append(all, x)
				}
			}
			met := 0
			for x := range p {
				if powers := powersOf(x, n, p); Verify(f, powers) {
					met++
					slices.Sort(powers)
					if !slices.Equal(powers, all) {
						t.Fatalf("of %d, %d: %v, not %v", p, n, powers, all)
					}
				}
			}
			if (met > 0) != ((p-1)%uint64(n) == 0) {
				t.Fatalf("of %d, %d: %d tables", p, n, met)
			}
		}
	}
}

// P10.2: of all fields, each table has so many numbers that are 1 by the length, all different: more there can't be.
func TestTablesHaveAllThatAreOne(t *testing.T) {
	for _, f := range fields(t) {
		p := f.P()
		for _, n := range lengths(p) {
			table, _ := Table(f, n, true)
			expectVerify(t, f, table, true)
			if n > 300 && n != most {
				continue
			}
			for i, x := range table {
				if power(x, uint64(n), p) != 1 || power(table[1%n], uint64(i), p) != x {
					t.Fatalf("of %d, %d: %d at %d", p, n, x, i)
				}
			}
			slices.Sort(table)
			if len(slices.Compact(table)) != n {
				t.Fatalf("of %d, %d: one is there twice", p, n)
			}
		}
	}
}

package coprime

import (
	"math"
	"math/big"
	"math/bits"
	"slices"
	"strconv"
	"testing"

	"epicycle/api"
	"epicycle/dft"
	"epicycle/field"
	"epicycle/proof"
	"epicycle/sieve"
)

const (
	// most is MaxLen, as the chapter writes it.
	most = 1024
	top  = math.MaxUint64
)

// Primes whose p - 1 is made of small ones: by all products of 2 to 7 that are
// short enough; by many factors, but by 2 only once, close below 2^63; by 1025, which has the part 25.
const (
	smooth = 137043*4096*2187*3125*2401 + 1
	odd    = 9223372036854774559
	beyond = 6*1025 + 1
)

func small(t *testing.T, p uint64) *field.Field {
	t.Helper()
	f, err := field.Small(p)
	if err != api.OK {
		t.Fatalf("Small(%d): %d", p, err)
	}
	return f
}

func known(t *testing.T, i int) *field.Field {
	t.Helper()
	f, err := field.Known(i)
	if err != api.OK {
		t.Fatalf("Known(%d): %d", i, err)
	}
	return f
}

// factored: the factors of a number that is made of small primes.
func factored(n uint64) []proof.Power {
	var all []proof.Power
	for q := uint64(2); n > 1; q++ {
		count := 0
		for ; n%q == 0; n /= q {
			count++
		}
		if count > 0 {
			all = append(all, proof.Power{Q: q, E: count})
		}
	}
	return all
}

// proved: the field of a prime, by a number from some one on whose powers are all.
func proved(t *testing.T, p, from uint64) *field.Field {
	t.Helper()
	entry := proof.Entry{P: p, G: from, Factors: factored(p - 1)}
	for slices.ContainsFunc(entry.Factors, func(factor proof.Power) bool { return power(entry.G, (p-1)/factor.Q, p) == 1 }) {
		entry.G++
	}
	var row []proof.Entry
	for _, factor := range entry.Factors[1:] {
		ahead, _ := sieve.Row(factor.Q)
		row = append(row, ahead...)
	}
	slices.SortFunc(row, func(a, b proof.Entry) int { return bigOf(a.P).Cmp(bigOf(b.P)) })
	row = slices.CompactFunc(row, func(a, b proof.Entry) bool { return a.P == b.P })
	f, err := field.New(append(row, entry), p)
	if err != api.OK {
		t.Fatalf("New of %d: %d", p, err)
	}
	return f
}

// fields: the known ones, small ones, some by numbers that aren't the least, and great ones.
func fields(t *testing.T) []*field.Field {
	t.Helper()
	var all []*field.Field
	for i := range 6 {
		all = append(all, known(t, i))
	}
	for _, p := range []uint64{3, 5, 7, 11, 13, 17, 19, 23, 29, 31, 43, 67, 71, 211, 257, 331, 463, 769, 859, 911, 1009, 1019, 1021, 1429, 1861} {
		all = append(all, small(t, p))
	}
	for _, p := range []uint64{1979, 1999, 2029, 2311, 2521, 2917, 3001, 3067, 4093, 5953, 6043, 6067, 8713, 12289, 65521} {
		all = append(all, small(t, p))
	}
	all = append(all, proved(t, 7, 4), proved(t, 31, 11), proved(t, 2521, 100), proved(t, 65537, 2), proved(t, beyond, 2))
	return append(all, proved(t, smooth, 2), proved(t, odd, 2))
}

// ofEach: a test of each field, all at a time.
func ofEach(t *testing.T, test func(t *testing.T, f *field.Field)) {
	t.Parallel()
	for _, f := range fields(t) {
		t.Run(strconv.FormatUint(f.P(), 10), func(t *testing.T) {
			t.Parallel()
			test(t, f)
		})
	}
}

func bigOf(a uint64) *big.Int { return new(big.Int).SetUint64(a) }

func power(x, e, p uint64) uint64 {
	return new(big.Int).Exp(bigOf(x), bigOf(e), bigOf(p)).Uint64()
}

// against: what makes 1 with a number, modulo p.
func against(x, p uint64) uint64 {
	return new(big.Int).ModInverse(bigOf(x), bigOf(p)).Uint64()
}

// times: a product modulo p, by a division.
func times(x, y, p uint64) uint64 {
	high, low := bits.Mul64(x, y)
	return bits.Rem64(high, low, p)
}

// plus: a sum modulo p, of residues.
func plus(x, y, p uint64) uint64 {
	sum, carry := bits.Add64(x, y, 0)
	return bits.Rem64(carry, sum, p)
}

// rootOf: the number whose powers the sums have, as the chapter of layer 11 says it.
func rootOf(f *field.Field, n int, inverse bool) uint64 {
	p := f.P()
	root := power(f.G(), (p-1)/uint64(n), p)
	if inverse {
		return against(root, p)
	}
	return root
}

// sums: the transform, or the inverse one, as the chapter of layer 11 says it.
func sums(f *field.Field, list []uint64, inverse bool) []uint64 {
	p, n := f.P(), len(list)
	root, by, scale := rootOf(f, n, inverse), uint64(1), uint64(1)
	if inverse {
		scale = against(uint64(n), p)
	}
	all := make([]uint64, n)
	for i := range all {
		// From the last one back, each time by one power more.
		for _, x := range slices.Backward(list) {
			all[i] = plus(times(all[i], by, p), x, p)
		}
		all[i] = times(all[i], scale, p)
		by = times(by, root, p)
	}
	return all
}

// isPart: whether a is a part of n, as the chapter says it, by trials of all that may divide both.
func isPart(n, a int) bool {
	if a <= 1 || a >= n || n%a != 0 {
		return false
	}
	for d := 2; d <= a; d++ {
		if a%d == 0 && n/a%d == 0 {
			return false
		}
	}
	return true
}

// parts: all parts of a number.
func parts(n int) []int {
	var all []int
	for a := 2; a < n; a++ {
		if isPart(n, a) {
			all = append(all, a)
		}
	}
	return all
}

// lengths: numbers up to MaxLen that divide p - 1, and have parts.
func lengths(p uint64) []int {
	var all []int
	for n := 1; n <= most; n++ {
		if (p-1)%uint64(n) == 0 && len(parts(n)) > 0 {
			all = append(all, n)
		}
	}
	return all
}

// mingled: so many residues, of each seed others.
func mingled(p uint64, n int, seed uint64) []uint64 {
	x := 88172645463325252 + seed
	all := make([]uint64, n)
	for i := range all {
		x ^= x << 13
		x ^= x >> 7
		x ^= x << 17
		all[i] = x % p
	}
	return all
}

// alone: so many noughts, and one number among them.
func alone(n, at int, x uint64) []uint64 {
	all := make([]uint64, n)
	all[at] = x
	return all
}

// lists: of residues, mingled ones, the least, the greatest, and one alone.
func lists(p uint64, n int) [][]uint64 {
	all := [][]uint64{mingled(p, n, 1)}
	if n <= 256 {
		all = append(all, mingled(p, n, 2), make([]uint64, n), slices.Repeat([]uint64{1}, n), slices.Repeat([]uint64{p - 1}, n))
		all = append(all, alone(n, 0, p-1), alone(n, n/2, 1), alone(n, n-1, p-1))
	}
	return all
}

// many: other lists of residues, fewer of long ones.
func many(p uint64, n int) [][]uint64 {
	all := [][]uint64{mingled(p, n, 3)}
	if n <= 256 {
		all = append(all, mingled(p, n, 20), alone(n, n-1, p-1))
	}
	return all
}

// seeAll: hands over all lists of so many residues.
func seeAll(p uint64, n int, see func(list []uint64)) {
	list := make([]uint64, n)
	var lay func(i int)
	lay = func(i int) {
		if i == n {
			see(list)
			return
		}
		for x := range p {
			list[i] = x
			lay(i + 1)
		}
	}
	lay(0)
}

// noResidues: numbers that aren't residues.
func noResidues(p uint64) []uint64 {
	return []uint64{p, p + 1, 2*p - 1, 2 * p, 1 << 63, top / p * p, top - 1, top}
}

// spoil: writes over all of a list, its spare room too.
func spoil(list []uint64) {
	list = list[:cap(list)]
	for i := range list {
		list[i] = 99
	}
}

// run: what Run answers of a list that it must transform.
func run(t *testing.T, f *field.Field, list []uint64, a int, inverse bool) []uint64 {
	t.Helper()
	got, err := Run(f, list, a, inverse)
	if len(got) != len(list) || err != api.OK {
		t.Fatalf("Run of %d, %d numbers, and %d, %v: %d numbers, %d", f.P(), len(list), a, inverse, len(got), err)
	}
	return got
}

// layer11: what layer 11 answers of a list that it must transform.
func layer11(t *testing.T, f *field.Field, list []uint64, inverse bool) []uint64 {
	t.Helper()
	got, err := dft.Run(f, list, inverse)
	if len(got) != len(list) || err != api.OK {
		t.Fatalf("dft.Run of %d, and %d numbers, %v: %d numbers, %d", f.P(), len(list), inverse, len(got), err)
	}
	return got
}

func expectSame(t *testing.T, name string, f *field.Field, a int, got, want []uint64) {
	t.Helper()
	if !slices.Equal(got, want) {
		t.Fatalf("%s of %d, %d numbers, and %d: from %v on, not %v", name, f.P(), len(want), a, got[:min(8, len(got))], want[:min(8, len(want))])
	}
}

// expectSums: Run answers the sums, forward and inverse, by all parts of the list's length.
func expectSums(t *testing.T, f *field.Field, list []uint64) {
	t.Helper()
	there, back := sums(f, list, false), sums(f, list, true)
	for _, a := range parts(len(list)) {
		expectSame(t, "Run", f, a, run(t, f, list, a, false), there)
		expectSame(t, "inverse Run", f, a, run(t, f, list, a, true), back)
	}
}

// expectAsLayer11: Run answers what layer 11 does, forward and inverse, by all parts of the list's length.
func expectAsLayer11(t *testing.T, f *field.Field, list []uint64) {
	t.Helper()
	there, back := layer11(t, f, list, false), layer11(t, f, list, true)
	for _, a := range parts(len(list)) {
		expectSame(t, "Run as dft.Run", f, a, run(t, f, list, a, false), there)
		expectSame(t, "inverse Run as dft.Run", f, a, run(t, f, list, a, true), back)
	}
}

// expectThereAndBack: both transforms, one behind the other, whichever is first, are the list, by all parts of its length,
// back by the same part, by the other one, and by the next.
func expectThereAndBack(t *testing.T, f *field.Field, list []uint64) {
	t.Helper()
	all := parts(len(list))
	for i, a := range all {
		there, back := run(t, f, list, a, false), run(t, f, list, a, true)
		for _, b := range []int{a, len(list) / a, all[(i+1)%len(all)]} {
			expectSame(t, "there and back", f, b, run(t, f, there, b, true), list)
			expectSame(t, "back and there", f, b, run(t, f, back, b, false), list)
		}
	}
}

// expectRefused: forward and inverse Run answers an error, and nothing beside it.
func expectRefused(t *testing.T, f *field.Field, list []uint64, a int, want api.Errno) {
	t.Helper()
	for _, inverse := range []bool{false, true} {
		if got, err := Run(f, list, a, inverse); len(got) != 0 || err != want {
			t.Fatalf("Run of %d, %d numbers, and %d, %v: %d numbers, %d, not %d", f.P(), len(list), a, inverse, len(got), err, want)
		}
	}
}

// expectFits: what Fits answers.
func expectFits(t *testing.T, n, a int, want bool) {
	t.Helper()
	if got := Fits(n, a); got != want {
		t.Fatalf("Fits(%d, %d): %v", n, a, got)
	}
}

// expectNoTable: In and Out answer none.
func expectNoTable(t *testing.T, a, b int) {
	t.Helper()
	if in, out := In(a, b), Out(a, b); len(in) != 0 || len(out) != 0 {
		t.Fatalf("In and Out of %d and %d: %d and %d numbers, not none", a, b, len(in), len(out))
	}
}

// seeTables: hands over the rows and columns of all tables that there are.
func seeTables(see func(a, b int)) {
	for n := range most + 1 {
		for _, a := range parts(n) {
			see(a, n/a)
		}
	}
}

// strange: numbers that are no number of rows, of columns, or of a list's length.
func strange() []int {
	return []int{0, -1, -2, -3, -4, -6, -1024, -1 << 32, -1 << 62, math.MinInt, math.MinInt + 1, math.MinInt + 2, math.MinInt + 3}
}

// great: very great numbers.
func great() []int {
	return []int{1 << 31, 1<<31 + 1, 1 << 32, 1<<32 + 1, 1 << 40, 1 << 62, 1<<62 + 1, 1<<62 + 3, 1<<61 + 3, math.MaxInt / 3, math.MaxInt / 2, math.MaxInt - 2, math.MaxInt - 1, math.MaxInt}
}

// P15.1: a pair is a row and a column, and one is held against another.
func TestPair(t *testing.T) {
	if p := (Pair{1, 2}); p[0] != 1 || p[1] != 2 || p != Pair([2]int{1, 2}) || p == (Pair{2, 1}) || (Pair{}) != (Pair{0, 0}) {
		t.Fatalf("%v", p)
	}
}

// P15.1: Fits of parts that are small primes, great ones, powers and products, and of the rest, which is one too.
func TestFitsOfParts(t *testing.T) {
	for _, c := range [][2]int{
		{6, 2}, {6, 3}, {10, 2}, {12, 4}, {12, 3}, {15, 5}, {18, 9}, {36, 4}, {72, 8}, {100, 25}, {768, 256}, {972, 243}, {992, 32}, {1000, 125}, {1014, 169}, {1018, 509}, {1007, 19},
		{30, 6}, {30, 10}, {30, 15}, {60, 12}, {210, 6}, {210, 35}, {900, 36}, {1020, 60}, {1025, 25}, {2310, 1155}, {65536 * 3, 65536}, {3 << 60, 1 << 60}, {5 << 60, 5}, {1<<62 - 2, 2},
		{2147483647 * 2147483629, 2147483629}, {math.MaxInt, 49}, {math.MaxInt, 73}, {math.MaxInt - 1, 2}, {math.MaxInt - 1, math.MaxInt / 2}, {9223372036854775783 / 2 * 2, 2},
	} {
		expectFits(t, c[0], c[1], true)
		expectFits(t, c[0], c[0]/c[1], true)
	}
}

// P15.1: Fits of 1, of the number itself, of 0, of what is below 0 or above it, of what doesn't divide it, and of what divides it, and the rest too has a factor of.
func TestFitsOfOthers(t *testing.T) {
	for _, n := range append([]int{1, 2, 3, 6, 12, 30, 36, 97, 1000, 1024, 1025}, great()...) {
		expectFits(t, n, 1, false)
		expectFits(t, n, n, false)
		for _, a := range strange() {
			expectFits(t, n, a, false)
		}
		for _, a := range great() {
			if a >= n {
				expectFits(t, n, a, false)
			}
		}
	}
	for _, c := range [][2]int{
		{6, 4}, {6, 5}, {6, 7}, {6, 12}, {12, 5}, {12, 7}, {12, 8}, {12, 24}, {1025, 2}, {97, 2}, {97, 96}, {97, 98}, {math.MaxInt, 2}, {math.MaxInt, math.MaxInt - 1}, {math.MaxInt - 1, 4},
		{4, 2}, {8, 2}, {8, 4}, {9, 3}, {12, 2}, {12, 6}, {18, 3}, {18, 6}, {36, 2}, {36, 12}, {36, 18}, {1024, 2}, {1024, 32}, {1024, 512}, {1000, 10}, {900, 30}, {961, 31},
		{math.MaxInt, 7}, {1 << 62, 2}, {1 << 62, 1 << 31}, {1 << 62, 1 << 61}, {3 << 60, 6}, {3 << 60, 3 << 59}, {2147483647 * 2147483647, 2147483647},
	} {
		expectFits(t, c[0], c[1], false)
	}
}

// P15.1: Fits of a number of 0, and below 0, whatever the part.
func TestFitsOfNothing(t *testing.T) {
	for _, n := range strange() {
		for a := -1100; a <= 1100; a++ {
			expectFits(t, n, a, false)
		}
		for _, a := range append(great(), strange()...) {
			expectFits(t, n, a, false)
		}
	}
}

// P15.1: Fits of all small numbers, and numbers below 0.
func TestFitsOfAll(t *testing.T) {
	for n := -100; n <= 1100; n++ {
		for a := -100; a <= 1110; a++ {
			expectFits(t, n, a, isPart(n, a))
		}
	}
}

// P15.1: In and Out of the chapter's examples, and some more that are reckoned by hand.
func TestTables(t *testing.T) {
	for _, c := range []struct {
		a, b    int
		in, out []int
	}{
		{2, 3, []int{0, 2, 4, 3, 5, 1}, []int{0, 4, 2, 3, 1, 5}},
		{3, 2, []int{0, 3, 2, 5, 4, 1}, []int{0, 3, 4, 1, 2, 5}},
		{2, 5, []int{0, 2, 4, 6, 8, 5, 7, 9, 1, 3}, []int{0, 6, 2, 8, 4, 5, 1, 7, 3, 9}},
		{3, 4, []int{0, 3, 6, 9, 4, 7, 10, 1, 8, 11, 2, 5}, []int{0, 5, 10, 3, 4, 9, 2, 7, 8, 1, 6, 11}},
		{4, 3, []int{0, 4, 8, 3, 7, 11, 6, 10, 2, 9, 1, 5}, []int{0, 4, 8, 9, 1, 5, 6, 10, 2, 3, 7, 11}},
	} {
		if in, out := In(c.a, c.b), Out(c.a, c.b); !slices.Equal(in, c.in) || !slices.Equal(out, c.out) {
			t.Fatalf("In and Out of %d and %d: %v, %v", c.a, c.b, in, out)
		}
	}
}

// P15.1: In of all tables: what stands at a place, row by row, is so many times its row, and its column.
func TestInOfAll(t *testing.T) {
	seeTables(func(a, b int) {
		in := In(a, b)
		for place, number := range in {
			row, column := place/b, place%b
			// The sum is below 2 a b: at most once a b is taken away.
			want := row*b + column*a
			if want >= a*b {
				want -= a * b
			}
			if number != want {
				t.Fatalf("In of %d and %d, at %d: %d, not %d", a, b, place, number, want)
			}
		}
		if len(in) != a*b {
			t.Fatalf("In of %d and %d: %d numbers", a, b, len(in))
		}
	})
}

// P15.1: Out of all tables: the place of each number has its rests as row and column.
func TestOutOfAll(t *testing.T) {
	seeTables(func(a, b int) {
		out := Out(a, b)
		row, column := 0, 0
		for number, place := range out {
			if place != row*b+column {
				t.Fatalf("Out of %d and %d, of %d: %d, not %d", a, b, number, place, row*b+column)
			}
			// Both rests are counted on, each round and round.
			row, column = (row+1)%a, (column+1)%b
		}
		if len(out) != a*b {
			t.Fatalf("Out of %d and %d: %d numbers", a, b, len(out))
		}
	})
}

// P15.1: In and Out are none of all other numbers of rows and columns: 1, what shares a factor, what is more than MaxLen, 0, and below.
func TestNoTables(t *testing.T) {
	for a := -30; a <= 1100; a++ {
		for b := -30; b <= 1100; b++ {
			if a*b > most || !isPart(a*b, a) || a < 0 || b < 0 {
				expectNoTable(t, a, b)
			}
		}
	}
}

// P15.1: In and Out are none of 1 row, or 1 column, of two that share a factor, of a product of just MaxLen, and of one just above it.
func TestEdgesOfTables(t *testing.T) {
	for n := range 3 * most {
		expectNoTable(t, 1, n)
		expectNoTable(t, n, 1)
		expectNoTable(t, n, n)
	}
	for _, c := range [][2]int{{2, 4}, {4, 6}, {6, 9}, {10, 15}, {30, 34}, {31, 33}, {2, 512}, {4, 256}, {32, 32}, {512, 2}, {1024, 1}, {1, 1024}, {25, 41}, {41, 25}, {5, 205}, {2, 513}, {27, 38}, {13, 79}, {4, 257}, {1025, 1}, {1025, 2}, {2, 1025}} {
		// Of 31 and 33 there is a table: 1023 numbers are the most that have parts.
		if c == [2]int{31, 33} {
			if len(In(c[0], c[1])) != 1023 || len(Out(c[0], c[1])) != 1023 || len(In(33, 31)) != 1023 || len(In(2, 511)) != 1022 {
				t.Fatal("no table of 1023 or 1022")
			}
			continue
		}
		expectNoTable(t, c[0], c[1])
	}
}

// P15.1: In and Out are none of numbers whose product no int holds, even if what is left of it by 64 bits would do; and of very great ones, and such below 0.
func TestGreatTables(t *testing.T) {
	for _, c := range [][2]int{
		{1 << 40, 1 << 40}, {1 << 32, 1 << 32}, {1 << 31, 1 << 33}, {1<<32 + 1, 1 << 32}, {math.MaxInt, math.MaxInt}, {math.MaxInt, math.MinInt}, {math.MinInt, math.MinInt},
		{4, 1<<62 + 3}, {8, 1<<61 + 3}, {64, 1<<58 + 3}, {4, 3<<61 + 3}, {512, 1<<55 + 1}, {4, 1<<62 + 255},
		{2, math.MinInt + 3}, {4, math.MinInt + 3}, {-2, -3}, {-2, 3}, {2, -3}, {math.MinInt + 2, 3},
	} {
		expectNoTable(t, c[0], c[1])
		expectNoTable(t, c[1], c[0])
	}
	for _, a := range append(great(), strange()...) {
		for b := -100; b <= 1100; b++ {
			expectNoTable(t, a, b)
			expectNoTable(t, b, a)
		}
		for _, b := range append(great(), strange()...) {
			expectNoTable(t, a, b)
		}
	}
}

// P15.2: In has each number once, and Out each place.
func TestEachOnce(t *testing.T) {
	seeTables(func(a, b int) {
		for _, all := range [][]int{In(a, b), Out(a, b)} {
			met := make([]int, a*b)
			for _, x := range all {
				if x < 0 || x >= a*b {
					t.Fatalf("%d, of %d and %d", x, a, b)
				}
				met[x]++
			}
			if slices.Max(met) != 1 || slices.Min(met) != 1 {
				t.Fatalf("of %d and %d: %v", a, b, met)
			}
		}
	})
}

// P15.1: what In and Out answer is new memory each time.
func TestTablesAreNewMemory(t *testing.T) {
	seeTables(func(a, b int) {
		for _, table := range []func(a, b int) []int{In, Out} {
			first, second := table(a, b), table(a, b)
			same := slices.Clone(second)
			for i := range first[:cap(first)] {
				first[:cap(first)][i] = 99
			}
			if !slices.Equal(second, same) || !slices.Equal(table(a, b), same) {
				t.Fatalf("of %d and %d: %v", a, b, second)
			}
		}
	})
}

// P15.1: transforms that are reckoned by hand.
func TestByHand(t *testing.T) {
	for _, c := range []struct {
		f         *field.Field
		list, sum []uint64
	}{
		{small(t, 7), []uint64{0, 1, 0, 0, 0, 0}, []uint64{1, 3, 2, 6, 4, 5}},
		{small(t, 7), []uint64{0, 0, 0, 0, 0, 1}, []uint64{1, 5, 4, 6, 2, 3}},
		{small(t, 7), []uint64{1, 0, 1, 0, 1, 0}, []uint64{3, 0, 0, 3, 0, 0}},
		{small(t, 7), []uint64{1, 0, 0, 1, 0, 0}, []uint64{2, 0, 2, 0, 2, 0}},
		{small(t, 7), []uint64{1, 2, 3, 4, 5, 6}, []uint64{0, 3, 6, 4, 2, 5}},
		{small(t, 11), alone(10, 1, 1), []uint64{1, 2, 4, 8, 5, 10, 9, 7, 3, 6}},
		{small(t, 13), alone(12, 1, 1), []uint64{1, 2, 4, 8, 3, 6, 12, 11, 9, 5, 10, 7}},
		{small(t, 13), alone(6, 1, 1), []uint64{1, 4, 3, 12, 9, 10}},
		// By the powers of 5 instead of those of 3.
		{proved(t, 7, 5), []uint64{0, 1, 0, 0, 0, 0}, []uint64{1, 5, 4, 6, 2, 3}},
	} {
		for _, a := range parts(len(c.list)) {
			expectSame(t, "Run", c.f, a, run(t, c.f, c.list, a, false), c.sum)
			expectSame(t, "inverse Run", c.f, a, run(t, c.f, c.sum, a, true), c.list)
		}
	}
}

// P15.1: of all fields, all lengths that have parts, and all their parts, the sums, forward and inverse.
func TestSums(t *testing.T) {
	ofEach(t, func(t *testing.T, f *field.Field) {
		for _, n := range lengths(f.P()) {
			for _, list := range lists(f.P(), n) {
				expectSums(t, f, list)
			}
		}
	})
}

// P15.1: among these fields there are such with parts that are small primes, great ones, powers, and products, and of all known ones.
func TestAllKindsAreMet(t *testing.T) {
	all := fields(t)
	for _, c := range []struct{ p, n, a int }{
		{7, 6, 2}, {7, 6, 3}, {2311, 462, 11}, {1019, 1018, 509}, {1019, 1018, 2}, {6067, 1011, 337}, {6043, 1007, 19}, {6043, 1007, 53}, {1979, 989, 43}, {3067, 1022, 73}, {odd, 914, 457}, {odd, 711, 79},
		{769, 768, 256}, {12289, 768, 3}, {2917, 972, 243}, {1999, 999, 27}, {3001, 1000, 125}, {2029, 1014, 169}, {8713, 968, 121}, {5953, 992, 32}, {1009, 1008, 63}, {odd, 306, 9},
		{31, 30, 6}, {211, 210, 35}, {1861, 930, 155}, {2521, 840, 24}, {4093, 1023, 93}, {1021, 1020, 60}, {smooth, 1008, 16}, {smooth, 840, 105}, {smooth, 1000, 8},
		{4179340454199820289, 928, 32}, {1945555039024054273, 864, 27}, {180143985094819841, 640, 5}, {754974721, 720, 45}, {469762049, 896, 7}, {167772161, 640, 128},
	} {
		if !slices.Contains(lengths(uint64(c.p)), c.n) || !isPart(c.n, c.a) || !slices.ContainsFunc(all, func(f *field.Field) bool { return f.P() == uint64(c.p) }) {
			t.Fatalf("%d numbers, of %d, by %d, aren't tested", c.n, c.p, c.a)
		}
	}
}

// P15.1: as layer 11 answers, of more lists.
func TestAsLayer11(t *testing.T) {
	ofEach(t, func(t *testing.T, f *field.Field) {
		for _, n := range lengths(f.P()) {
			for _, list := range many(f.P(), n) {
				expectAsLayer11(t, f, list)
			}
		}
	})
}

// P15.1: of the least prime that has a length with parts, all lists that there are.
func TestAllLists(t *testing.T) {
	t.Parallel()
	f := small(t, 7)
	seeAll(7, 6, func(list []uint64) {
		there, back := sums(f, list, false), sums(f, list, true)
		expectSame(t, "Run", f, 2, run(t, f, list, 2, false), there)
		expectSame(t, "inverse Run", f, 3, run(t, f, list, 3, true), back)
	})
}

// P15.1: of one 1 among noughts the transform is the root's powers, by as many steps as its place; wherever it is.
func TestOneAlone(t *testing.T) {
	ofEach(t, func(t *testing.T, f *field.Field) {
		for _, n := range lengths(f.P()) {
			// Of long lists, at some places.
			step := max(1, n/4-1)
			for at := 0; at < n; at += step {
				expectPowers(t, f, n, at)
			}
		}
	})
}

// expectPowers: of one 1 among noughts Run answers powers, each of which is reckoned from the one ahead of it.
func expectPowers(t *testing.T, f *field.Field, n, at int) {
	t.Helper()
	p := f.P()
	for _, inverse := range []bool{false, true} {
		by := power(rootOf(f, n, inverse), uint64(at), p)
		x := uint64(1)
		if inverse {
			x = against(uint64(n), p)
		}
		want := make([]uint64, n)
		for i := range want {
			want[i] = x
			x = times(x, by, p)
		}
		for _, a := range parts(n) {
			expectSame(t, "Run", f, a, run(t, f, alone(n, at, 1), a, inverse), want)
		}
	}
}

// P15.1: a list of just MaxLen, which has no part, is refused, whatever the part: ErrKind, if there is a root, else ErrOrder; ahead of ErrEntry.
func TestJustMaxLen(t *testing.T) {
	met := 0
	for _, f := range fields(t) {
		want := api.ErrOrder
		if (f.P()-1)%most == 0 {
			want = api.ErrKind
			met++
		}
		for _, a := range []int{-1, 0, 1, 2, 3, 4, 32, 512, 1023, 1024, 1025} {
			expectRefused(t, f, make([]uint64, most), a, want)
			expectRefused(t, f, slices.Repeat([]uint64{top}, most), a, want)
		}
	}
	if met < 8 {
		t.Fatalf("only %d fields have roots of %d", met, most)
	}
}

// P15.1: a list of one number has no part: ErrKind, ahead of ErrEntry.
func TestOneNumber(t *testing.T) {
	for _, f := range fields(t) {
		for _, x := range []uint64{0, 1, f.P() - 1, f.P(), top} {
			for _, a := range append([]int{1, 2, 3, 4, 5, 6}, strange()...) {
				expectRefused(t, f, []uint64{x}, a, api.ErrKind)
			}
		}
	}
}

// P15.1: ErrNil of a nil field, whatever the list and the part, and ahead of all other errors.
func TestNilField(t *testing.T) {
	noughts, others := make([]uint64, 2*most+1), slices.Repeat([]uint64{top}, 2*most+1)
	for _, a := range []int{2, 3, 1, 0, -2, math.MaxInt, math.MinInt} {
		for n := range noughts {
			expectRefused(t, nil, noughts[:n], a, api.ErrNil)
			expectRefused(t, nil, others[:n], a, api.ErrNil)
		}
		expectRefused(t, nil, nil, a, api.ErrNil)
	}
}

// P15.1: ErrArg of an empty list, whatever the part.
func TestNothing(t *testing.T) {
	for _, f := range fields(t) {
		for _, a := range append([]int{1, 2, 3, 6}, strange()...) {
			expectRefused(t, f, nil, a, api.ErrArg)
			expectRefused(t, f, []uint64{}, a, api.ErrArg)
			expectRefused(t, f, []uint64{1, top}[:0], a, api.ErrArg)
		}
	}
}

// P15.1: ErrLong of more than MaxLen, whether or not a is a part, their number divides p - 1, and they are residues.
func TestLongLists(t *testing.T) {
	for _, f := range fields(t) {
		for _, n := range []int{most + 1, most + 2, 1026, 1029, 1030, 1050, 2*most - 1, 2 * most, 3 * most, 4 * most, 4*most + 1, 1 << 16} {
			for _, a := range []int{1, 2, 3, 25, 41, n, n / 2, 0, -1} {
				expectRefused(t, f, make([]uint64, n), a, api.ErrLong)
			}
			expectRefused(t, f, slices.Repeat([]uint64{top}, n), 25, api.ErrLong)
		}
	}
	if !proved(t, beyond, 2).Divides(most+1) || !isPart(most+1, 25) || !proved(t, smooth, 2).Divides(1050) || !isPart(1050, 2) || small(t, 7).Divides(most+1) {
		t.Fatal("the lengths are none of both kinds")
	}
}

// P15.1: of all lengths up to MaxLen, ErrOrder of those that don't divide p - 1, and ErrKind of those that do, if a is no part; both ahead of ErrEntry.
func TestOtherLengths(t *testing.T) {
	ofEach(t, func(t *testing.T, f *field.Field) {
		p := f.P()
		noughts, others := make([]uint64, most), slices.Repeat([]uint64{p}, most)
		for n := 1; n <= most; n++ {
			for _, a := range []int{-2, 0, 1, 2, 3, 4, 5, 6, 7, 11, 32, n / 3, n / 2, n - 1, n, n + 1, 2 * n} {
				want := api.ErrKind
				if (p-1)%uint64(n) != 0 {
					want = api.ErrOrder
				} else if isPart(n, a) {
					continue
				}
				expectRefused(t, f, noughts[:n], a, want)
				expectRefused(t, f, others[:n], a, want)
			}
		}
	})
}

// P15.1: of some lengths all parts that aren't: ErrKind, ahead of ErrEntry.
func TestOtherParts(t *testing.T) {
	f := proved(t, smooth, 2)
	for _, n := range []int{1, 2, 4, 5, 6, 12, 30, 36, 210, 512, 840, 900, 1008} {
		for a := -2 * n; a <= 2*n+2; a++ {
			if isPart(n, a) {
				continue
			}
			expectRefused(t, f, make([]uint64, n), a, api.ErrKind)
			expectRefused(t, f, slices.Repeat([]uint64{top}, n), a, api.ErrKind)
		}
		for _, a := range append(great(), strange()...) {
			expectRefused(t, f, make([]uint64, n), a, api.ErrKind)
		}
	}
}

// P15.1: ErrEntry, if one is no residue, wherever it stands, at all lengths that there are.
func TestOthersThanResidues(t *testing.T) {
	ofEach(t, func(t *testing.T, f *field.Field) {
		for _, n := range lengths(f.P()) {
			for _, a := range parts(n) {
				for _, x := range noResidues(f.P()) {
					for _, at := range []int{0, n / 3, n / 2, n - 1} {
						expectRefused(t, f, alone(n, at, x), a, api.ErrEntry)
					}
				}
			}
		}
	})
}

// P15.1: of several errors the one that the chapters name first, one by one.
func TestSeveralErrors(t *testing.T) {
	seven, thirteen := small(t, 7), small(t, 13)
	for _, c := range []struct {
		f    *field.Field
		list []uint64
		a    int
		want api.Errno
	}{
		{nil, nil, 2, api.ErrNil}, {nil, []uint64{99}, 1, api.ErrNil}, {nil, slices.Repeat([]uint64{99}, 6), 5, api.ErrNil}, {nil, make([]uint64, 1025), 25, api.ErrNil},
		{seven, nil, 2, api.ErrArg}, {seven, nil, 0, api.ErrArg}, {seven, slices.Repeat([]uint64{9}, 1025), 25, api.ErrLong}, {seven, make([]uint64, 1026), 3, api.ErrLong}, {seven, make([]uint64, 1026), 2, api.ErrLong},
		{seven, make([]uint64, 10), 2, api.ErrOrder}, {seven, make([]uint64, 12), 2, api.ErrOrder}, {seven, make([]uint64, 12), 4, api.ErrOrder}, {seven, []uint64{9, 0, 0, 0}, 2, api.ErrOrder}, {seven, slices.Repeat([]uint64{9}, 1024), 2, api.ErrOrder},
		{thirteen, make([]uint64, 12), 2, api.ErrKind}, {thirteen, make([]uint64, 12), 6, api.ErrKind}, {thirteen, make([]uint64, 12), 5, api.ErrKind}, {thirteen, slices.Repeat([]uint64{13}, 12), 6, api.ErrKind}, {thirteen, slices.Repeat([]uint64{top}, 6), 1, api.ErrKind}, {thirteen, slices.Repeat([]uint64{top}, 4), 2, api.ErrKind},
		{seven, []uint64{0, 0, 7, 0, 0, 0}, 2, api.ErrEntry}, {seven, []uint64{7, 1, 2, 3, 4, 5}, 3, api.ErrEntry}, {thirteen, slices.Repeat([]uint64{top}, 12), 4, api.ErrEntry}, {thirteen, slices.Repeat([]uint64{13}, 12), 3, api.ErrEntry},
	} {
		expectRefused(t, c.f, c.list, c.a, c.want)
	}
}

// P15.1: a list that is handed in stays as it was, the room behind it too, whatever is answered.
func TestListsStay(t *testing.T) {
	for _, f := range []*field.Field{nil, small(t, 5), small(t, 7), small(t, 11), small(t, 13), known(t, 1), known(t, 3)} {
		for _, room := range [][]uint64{{1, 2, 3, 4, 0, 1, 2, 3, 4, 0, 1, 2, 3}, {4, 3, 2, 5, 1, 1, 1, 1, 1, 1, 1, 1, 1}, {top, 1, 1, 1, 1, 1, 1, 1, 1, 1, 1, 1, 1}} {
			same := slices.Clone(room)
			for n := range room {
				for a := range n + 2 {
					Run(f, room[:n], a, false)
					Run(f, room[:n], a, true)
					expectSame(t, "the list", small(t, 13), a, room, same)
				}
			}
		}
	}
	f := proved(t, smooth, 2)
	long := mingled(f.P(), 2*most, 5)
	same := slices.Clone(long)
	for _, n := range []int{1, 2, 6, 11, 210, 625, 840, 1008, most, 1025, 2 * most} {
		for _, a := range []int{1, 2, 3, 8, 9, 16, 25} {
			Run(f, long[:n], a, false)
			Run(f, long[:n], a, true)
			expectSame(t, "the list", f, a, long, same)
		}
	}
}

// P15.1: what is answered is new memory each time, and hangs on what is handed in alone.
func TestAnswersAreNewMemory(t *testing.T) {
	f, other := small(t, 211), small(t, 2521)
	for _, n := range lengths(211) {
		list := mingled(211, n, 6)
		same := slices.Clone(list)
		for _, a := range parts(n) {
			for _, inverse := range []bool{false, true} {
				first := run(t, f, list, a, inverse)
				want := slices.Clone(first)
				if other.Divides(n) {
					spoil(run(t, other, list, a, inverse))
				}
				second := run(t, f, list, a, inverse)
				expectSame(t, "the same again", f, a, second, want)
				spoil(first)
				expectSame(t, "the other answer", f, a, second, want)
				expectSame(t, "the list", f, a, list, same)
			}
		}
	}
}

// P15.1: what is written into a list behind a call isn't seen in its answer.
func TestListsAreNotKept(t *testing.T) {
	f := small(t, 211)
	for _, n := range lengths(211) {
		list := mingled(211, n, 7)
		want := [][]uint64{sums(f, list, false), sums(f, list, true)}
		for _, a := range parts(n) {
			copied := slices.Clone(list)
			there, back := run(t, f, copied, a, false), run(t, f, copied, a, true)
			spoil(copied)
			expectSame(t, "Run", f, a, there, want[0])
			expectSame(t, "inverse Run", f, a, back, want[1])
		}
	}
}

// P15.1: there and back to the list, of all fields and lengths, by all parts, and whichever way is first.
func TestThereAndBack(t *testing.T) {
	ofEach(t, func(t *testing.T, f *field.Field) {
		for _, n := range lengths(f.P()) {
			expectThereAndBack(t, f, mingled(f.P(), n, 8))
		}
	})
}

// P15.1: there by parts, and back by layer 11, or the other way round.
func TestThereAndBackWithLayer11(t *testing.T) {
	ofEach(t, func(t *testing.T, f *field.Field) {
		for _, n := range lengths(f.P()) {
			list := mingled(f.P(), n, 9)
			there := layer11(t, f, list, false)
			for _, a := range parts(n) {
				expectSame(t, "Run there, dft.Run back", f, a, layer11(t, f, run(t, f, list, a, false), true), list)
				expectSame(t, "dft.Run there, Run back", f, a, run(t, f, there, a, true), list)
			}
		}
	})
}

package field

import (
	"math"
	"math/big"
	"reflect"
	"slices"
	"testing"

	"epicycle/api"
	"epicycle/proof"
	"epicycle/sieve"
)

const top = math.MaxUint64

// table: the known primes, as the chapter writes them.
func table() []proof.Entry {
	return []proof.Entry{
		{P: 4179340454199820289, G: 3, Factors: []proof.Power{{Q: 2, E: 57}, {Q: 29, E: 1}}},
		{P: 1945555039024054273, G: 5, Factors: []proof.Power{{Q: 2, E: 56}, {Q: 3, E: 3}}},
		{P: 180143985094819841, G: 6, Factors: []proof.Power{{Q: 2, E: 55}, {Q: 5, E: 1}}},
		{P: 754974721, G: 11, Factors: []proof.Power{{Q: 2, E: 24}, {Q: 3, E: 2}, {Q: 5, E: 1}}},
		{P: 469762049, G: 3, Factors: []proof.Power{{Q: 2, E: 26}, {Q: 7, E: 1}}},
		{P: 167772161, G: 3, Factors: []proof.Power{{Q: 2, E: 25}, {Q: 5, E: 1}}},
	}
}

// great: entries of primes close below 2^63, with few and with many factors of 2.
func great() []proof.Entry {
	return []proof.Entry{
		{P: 9223372036854774559, G: 6, Factors: []proof.Power{{Q: 2, E: 1}, {Q: 3, E: 2}, {Q: 17, E: 1}, {Q: 79, E: 1}, {Q: 457, E: 1}, {Q: 967, E: 1}, {Q: 28111, E: 1}, {Q: 30713, E: 1}}},
		{P: 9198602238904238081, G: 3, Factors: []proof.Power{{Q: 2, E: 51}, {Q: 5, E: 1}, {Q: 19, E: 1}, {Q: 43, E: 1}}},
	}
}

// rowFor: a row that proves an entry whose odd factors are small primes.
func rowFor(entry proof.Entry) []proof.Entry {
	row := []proof.Entry{entry}
	for _, factor := range entry.Factors {
		ahead, _ := sieve.Row(factor.Q)
		row = append(row, ahead...)
	}
	slices.SortFunc(row, func(a, b proof.Entry) int { return bigOf(a.P).Cmp(bigOf(b.P)) })
	return slices.CompactFunc(row, func(a, b proof.Entry) bool { return a.P == b.P })
}

func bigOf(a uint64) *big.Int { return new(big.Int).SetUint64(a) }

// isPrime: what math/big says, which is sure below 2^64.
func isPrime(n uint64) bool { return bigOf(n).ProbablyPrime(0) }

// made: a field that must have been.
func made(t *testing.T, f *Field, err api.Errno) *Field {
	t.Helper()
	if f == nil || err != api.OK {
		t.Fatalf("no field: %v, %d", f, err)
	}
	return f
}

func small(t *testing.T, p uint64) *Field {
	t.Helper()
	f, err := Small(p)
	return made(t, f, err)
}

// fields: the known ones, some small ones, and some close below 2^63.
func fields(t *testing.T) []*Field {
	t.Helper()
	var all []*Field
	for i := range table() {
		f, err := Known(i)
		all = append(all, made(t, f, err))
	}
	for _, p := range []uint64{3, 5, 7, 13, 17, 31, 97, 211, 257, 7681, 12289, 40961, 65521} {
		all = append(all, small(t, p))
	}
	for _, entry := range great() {
		f, err := New(rowFor(entry), entry.P)
		all = append(all, made(t, f, err))
	}
	return all
}

// about: numbers at and about a prime, its multiples, and the ends of what has 64 bits.
func about(p uint64) []uint64 {
	most := top / p * p
	return []uint64{
		0, 1, 2, 3, p / 2, p/2 + 1, p - 2, p - 1, p, p + 1, 2*p - 1, 2 * p, most - 1, most,
		1<<32 - 1, 1 << 32, 1<<63 - 1, 1 << 63, 1<<63 + 1, top - 1, top,
	}
}

// mingled: so many numbers of all lengths, always the same.
func mingled(count int) []uint64 {
	x := uint64(88172645463325252)
	all := make([]uint64, count)
	for i := range all {
		x ^= x << 13
		x ^= x >> 7
		x ^= x << 17
		all[i] = x >> (i * 7 % 64)
	}
	return all
}

// pairs: all pairs of numbers about a prime, and mingled ones.
func pairs(p uint64) [][2]uint64 {
	var all [][2]uint64
	for _, a := range about(p) {
		for _, b := range about(p) {
			all = append(all, [2]uint64{a, b})
		}
	}
	more := mingled(400)
	for i := 0; i+2 <= len(more); i += 2 {
		all = append(all, [2]uint64(more[i:i+2]))
	}
	return all
}

// rest: a number modulo p, of numbers below 0 too.
func rest(n *big.Int, p uint64) uint64 {
	return new(big.Int).Mod(n, bigOf(p)).Uint64()
}

func power(x, e, p uint64) uint64 {
	return new(big.Int).Exp(bigOf(x), bigOf(e), bigOf(p)).Uint64()
}

// word: 2^64.
func word() *big.Int { return new(big.Int).Lsh(big.NewInt(1), 64) }

func expect(t *testing.T, name string, got, want uint64, of ...uint64) {
	t.Helper()
	if got != want {
		t.Fatalf("%s of %v: %d, not %d", name, of, got, want)
	}
}

// expectEntry: a field has what an entry says.
func expectEntry(t *testing.T, f *Field, entry proof.Entry) {
	t.Helper()
	expect(t, "P", f.P(), entry.P, entry.P)
	expect(t, "G", f.G(), entry.G, entry.P)
	if got := f.Factors(); !slices.Equal(got, entry.Factors) {
		t.Fatalf("Factors of %d: %v, not %v", entry.P, got, entry.Factors)
	}
}

// expectNone: there is no field, but an error.
func expectNone(t *testing.T, name string, f *Field, err, want api.Errno) {
	t.Helper()
	if f != nil || err != want {
		t.Fatalf("%s: %v, %d, not %d", name, f, err, want)
	}
}

// P6.1: the chapter's example.
func TestExample(t *testing.T) {
	f := small(t, 17)
	expect(t, "G", f.G(), 3)
	root, err := f.Root(4)
	if root != 13 || err != api.OK {
		t.Fatalf("Root(4): %d, %d", root, err)
	}
	expect(t, "Mul", f.Mul(root, root), 16, root, root)
	expect(t, "Pow", f.Pow(root, 4), 1, root, 4)
}

// P6.1: of a right row each entry has its field, with the entry's own G and factors.
func TestNew(t *testing.T) {
	for _, p := range []uint64{3, 5, 7, 29, 43, 71, 20147, 65521} {
		row, _ := sieve.Row(p)
		for _, entry := range row {
			f, err := New(row, entry.P)
			expectEntry(t, made(t, f, err), entry)
		}
	}
	for _, entry := range append(great(), table()...) {
		f, err := New(rowFor(entry), entry.P)
		expectEntry(t, made(t, f, err), entry)
	}
}

// P6.1: a G that isn't the least one is the field's all the same.
func TestNewWithOtherG(t *testing.T) {
	row, _ := sieve.Row(7)
	row[1].G = 5
	f, err := New(row, 7)
	expectEntry(t, made(t, f, err), row[1])
	if root, err := f.Root(3); root != 4 || err != api.OK {
		t.Errorf("Root(3) by 5: %d, %d", root, err)
	}
}

// P6.1: ErrNone of a right row that has no entry of p.
func TestNewWithoutEntry(t *testing.T) {
	row, _ := sieve.Row(29) // 3, 7, 29
	for _, p := range []uint64{0, 1, 2, 4, 5, 6, 8, 13, 28, 30, 31, 1<<32 + 7, 1<<63 + 29, top} {
		f, err := New(row, p)
		expectNone(t, "New", f, err, api.ErrNone)
	}
	for _, p := range []uint64{0, 3} {
		f, err := New(nil, p)
		expectNone(t, "New of nil", f, err, api.ErrNone)
		f, err = New([]proof.Entry{}, p)
		expectNone(t, "New of nothing", f, err, api.ErrNone)
	}
}

// wrongRows: rows that aren't right, each with 3 ahead of what is wrong.
func wrongRows() [][]proof.Entry {
	three := proof.Entry{P: 3, G: 2, Factors: []proof.Power{{Q: 2, E: 1}}}
	seven := []proof.Power{{Q: 2, E: 1}, {Q: 3, E: 1}}
	return [][]proof.Entry{
		{three, three},
		{three, {}},
		{three, {P: 7, G: 2, Factors: seven}},
		{three, {P: 7, G: 0, Factors: seven}},
		{three, {P: 7, G: 10, Factors: seven}},
		{three, {P: 7, G: 3, Factors: seven[:1]}},
		{three, {P: 9, G: 2, Factors: []proof.Power{{Q: 2, E: 3}}}},
		{three, {P: 11, G: 2, Factors: []proof.Power{{Q: 2, E: 1}, {Q: 5, E: 1}}}},
		{three, {P: 7, G: 3, Factors: seven}, {P: 5, G: 2, Factors: []proof.Power{{Q: 2, E: 2}}}},
	}
}

// P6.1: ErrProof of a row that isn't right, whether or not the wrong entry is p's, and ahead of ErrNone.
func TestNewOfWrongRow(t *testing.T) {
	for at, row := range wrongRows() {
		if _, err := proof.Check(row); err != api.ErrProof {
			t.Fatalf("row %d: Check answers %d", at, err)
		}
		for _, p := range []uint64{0, 3, 5, 7, 9, 11, 13} {
			f, err := New(row, p)
			expectNone(t, "New", f, err, api.ErrProof)
		}
	}
}

// longRow: a right row of so many entries.
func longRow(count int) []proof.Entry {
	var row []proof.Entry
	for _, p := range sieve.Primes(1000)[1 : count+1] {
		q := uint64(p)
		row = append(row, proof.Entry{P: q, G: sieve.Generator(q), Factors: sieve.Factor(q - 1)})
	}
	return row
}

// P6.1: ErrLong of a row of more than MaxEntries, and ahead of all others.
func TestNewOfLongRow(t *testing.T) {
	row := longRow(api.MaxEntries)
	for _, entry := range row {
		f, err := New(row, entry.P)
		expectEntry(t, made(t, f, err), entry)
	}
	row = longRow(api.MaxEntries + 1)
	for _, p := range []uint64{0, 3, 5, row[api.MaxEntries].P, top} {
		f, err := New(row, p)
		expectNone(t, "New", f, err, api.ErrLong)
	}
	row[0].G = 1
	f, err := New(row, 3)
	expectNone(t, "New of a wrong one", f, err, api.ErrLong)
}

// P6.1: New changes nothing that it is given, and keeps nothing of it.
func TestNewKeepsNothing(t *testing.T) {
	entry := great()[1]
	row, same := rowFor(entry), rowFor(entry)
	f, err := New(row, entry.P)
	made(t, f, err)
	if !reflect.DeepEqual(row, same) {
		t.Fatal("New changed its row")
	}
	for at := range row {
		for i := range row[at].Factors {
			row[at].Factors[i] = proof.Power{Q: 9, E: 9}
		}
		row[at] = proof.Entry{P: 9, G: 9}
	}
	expectEntry(t, f, great()[1])
}

// P6.1: of every odd prime up to MaxSmall the field of its Row; ErrArg of all other numbers.
func TestSmall(t *testing.T) {
	for p := range uint64(api.MaxSmall + 100) {
		f, err := Small(p)
		if p%2 == 0 || p > api.MaxSmall || !isPrime(p) {
			expectNone(t, "Small", f, err, api.ErrArg)
			continue
		}
		entry := proof.Entry{P: p, G: sieve.Generator(p), Factors: sieve.Factor(p - 1)}
		expectEntry(t, made(t, f, err), entry)
	}
}

// P6.1: the edges of Small: noughts, ones, twos, squares, and primes that are too great.
func TestSmallOfOthers(t *testing.T) {
	for _, p := range []uint64{
		0, 1, 2, 4, 9, 15, 21, 25, 561, 65535, 65536, 65537, 65539, 167772161, 1<<31 - 1,
		1<<32 + 3, 1<<32 + 15, 1<<61 - 1, 4179340454199820289, 1<<63 + 3, top - 58, top,
	} {
		f, err := Small(p)
		expectNone(t, "Small", f, err, api.ErrArg)
	}
	expectEntry(t, small(t, 3), proof.Entry{P: 3, G: 2, Factors: []proof.Power{{Q: 2, E: 1}}})
	expectEntry(t, small(t, 65521), proof.Entry{P: 65521, G: 17, Factors: []proof.Power{{Q: 2, E: 4}, {Q: 3, E: 2}, {Q: 5, E: 1}, {Q: 7, E: 1}, {Q: 13, E: 1}}})
}

// P6.1: the known primes are those of the table; ErrArg of other numbers.
func TestKnown(t *testing.T) {
	for i, entry := range table() {
		f, err := Known(i)
		expectEntry(t, made(t, f, err), entry)
		if !isPrime(f.P()) {
			t.Errorf("%d is no prime", f.P())
		}
	}
	for _, i := range []int{math.MinInt, -6, -2, -1, 6, 7, 8, 1 << 32, math.MaxInt} {
		f, err := Known(i)
		expectNone(t, "Known", f, err, api.ErrArg)
	}
}

// P6.1: the factors that are answered are new memory each time.
func TestFactorsAreNew(t *testing.T) {
	for i, entry := range table() {
		f, _ := Known(i)
		factors := f.Factors()
		factors = factors[:cap(factors)]
		for at := range factors {
			factors[at] = proof.Power{Q: 9, E: 9}
		}
		expectEntry(t, f, entry)
		f, _ = Known(i)
		expectEntry(t, f, entry)
	}
}

// P6.1: what a residue is.
func TestGood(t *testing.T) {
	for _, f := range fields(t) {
		for _, x := range append(about(f.P()), mingled(200)...) {
			if f.Good(x) != (x < f.P()) {
				t.Errorf("Good of %d modulo %d: %v", x, f.P(), f.Good(x))
			}
		}
	}
}

// P6.1: sums, differences, opposites and products, of numbers that are no residues too.
func TestSumsAndProducts(t *testing.T) {
	for _, f := range fields(t) {
		p := f.P()
		for _, pair := range pairs(p) {
			x, y := bigOf(pair[0]), bigOf(pair[1])
			of := []uint64{pair[0], pair[1], p}
			expect(t, "Add", f.Add(of[0], of[1]), rest(new(big.Int).Add(x, y), p), of...)
			expect(t, "Sub", f.Sub(of[0], of[1]), rest(new(big.Int).Sub(x, y), p), of...)
			expect(t, "Neg", f.Neg(of[0]), rest(new(big.Int).Neg(x), p), of...)
			expect(t, "Mul", f.Mul(of[0], of[1]), rest(new(big.Int).Mul(x, y), p), of...)
		}
	}
}

// P6.1: powers, of all numbers and exponents; the exponent isn't cut, and the 0-th power is 1, of 0 too.
func TestPow(t *testing.T) {
	for _, f := range fields(t) {
		p := f.P()
		for _, pair := range pairs(p) {
			x, e := pair[0], pair[1]
			expect(t, "Pow", f.Pow(x, e), power(x, e, p), x, e, p)
			expect(t, "Pow", f.Pow(x, 0), 1, x, 0, p)
			expect(t, "Pow", f.Pow(x, 1), x%p, x, 1, p)
		}
		for _, e := range []uint64{1, 2, p - 1, p, 1 << 63, top} {
			expect(t, "Pow", f.Pow(0, e), 0, 0, e, p)
			expect(t, "Pow", f.Pow(p, e), 0, p, e, p)
		}
		expect(t, "Pow", f.Pow(f.G(), p-1), 1, f.G(), p-1, p)
		expect(t, "Pow", f.Pow(f.G(), (p-1)/2), p-1, f.G(), (p-1)/2, p)
	}
}

// P6.1: inverses, of numbers that are no residues too; 0 of multiples of p.
func TestInv(t *testing.T) {
	for _, f := range fields(t) {
		p := f.P()
		for _, x := range append(about(p), mingled(200)...) {
			var want uint64
			if inverse := new(big.Int).ModInverse(bigOf(x), bigOf(p)); inverse != nil {
				want = inverse.Uint64()
			}
			expect(t, "Inv", f.Inv(x), want, x, p)
		}
		for _, x := range []uint64{0, p, 2 * p, top / p * p} {
			expect(t, "Inv", f.Inv(x), 0, x, p)
		}
	}
}

// P6.1: Lift is a number times 2^64; Times takes that away again, of all numbers.
func TestLiftAndTimes(t *testing.T) {
	for _, f := range fields(t) {
		p := f.P()
		back := new(big.Int).ModInverse(word(), bigOf(p))
		for _, pair := range pairs(p) {
			x, y := pair[0], pair[1]
			expect(t, "Lift", f.Lift(x), rest(new(big.Int).Mul(bigOf(x), word()), p), x, p)
			product := new(big.Int).Mul(bigOf(x), bigOf(y))
			expect(t, "Times of Lift", f.Times(f.Lift(x), y), rest(product, p), x, y, p)
			expect(t, "Times", f.Times(x, y), rest(product.Mul(product, back), p), x, y, p)
		}
	}
}

// lengths: numbers that may be a root's order, and such as can't.
func lengths(p uint64) []int {
	all := []int{math.MinInt, math.MinInt + 1, -1 << 32, 1 << 32, 1 << 55, 1 << 56, 1 << 57, 1 << 58, 1 << 62, math.MaxInt - 1, math.MaxInt}
	for n := -70; n <= 1100; n++ {
		all = append(all, n)
	}
	for _, d := range []uint64{1, 2, 3, 5, 7, 29} {
		all = append(all, int((p-1)/d), -int((p-1)/d), int((p-1)/d)+1, int((p-1)/d)-1)
	}
	return append(all, int(p), int(p+1), int(2*p-2))
}

// divides: what Divides must answer.
func divides(n int, p uint64) bool {
	return n >= 1 && new(big.Int).Mod(bigOf(p-1), big.NewInt(int64(n))).Sign() == 0
}

// P6.1: what divides p - 1, of numbers from 1 on.
func TestDivides(t *testing.T) {
	for _, f := range fields(t) {
		p := f.P()
		for _, n := range lengths(p) {
			if f.Divides(n) != divides(n, p) {
				t.Errorf("Divides(%d) of %d: %v", n, p, f.Divides(n))
			}
		}
		if !f.Divides(1) || !f.Divides(2) || !f.Divides(int(p-1)) || f.Divides(0) || f.Divides(-1) || f.Divides(int(p)) {
			t.Errorf("Divides at the edges of %d", p)
		}
	}
}

// P6.1: roots are G's powers; ErrOrder, and 0, of what doesn't divide p - 1.
func TestRoot(t *testing.T) {
	for _, f := range fields(t) {
		p := f.P()
		for _, n := range lengths(p) {
			root, err := f.Root(n)
			if !divides(n, p) {
				if root != 0 || err != api.ErrOrder {
					t.Errorf("Root(%d) of %d: %d, %d", n, p, root, err)
				}
				continue
			}
			if want := power(f.G(), (p-1)/uint64(n), p); root != want || err != api.OK {
				t.Errorf("Root(%d) of %d: %d, %d, not %d", n, p, root, err, want)
			}
		}
	}
}

// P6.1: of a nil field 0, false, nothing; Root says ErrNil, of every n.
func TestNil(t *testing.T) {
	var f *Field
	expect(t, "P", f.P(), 0)
	expect(t, "G", f.G(), 0)
	if got := f.Factors(); len(got) != 0 {
		t.Errorf("Factors: %v", got)
	}
	for _, pair := range pairs(7) {
		x, y := pair[0], pair[1]
		if f.Good(x) {
			t.Errorf("Good(%d)", x)
		}
		expect(t, "Add", f.Add(x, y), 0, x, y)
		expect(t, "Sub", f.Sub(x, y), 0, x, y)
		expect(t, "Neg", f.Neg(x), 0, x)
		expect(t, "Mul", f.Mul(x, y), 0, x, y)
		expect(t, "Pow", f.Pow(x, y), 0, x, y)
		expect(t, "Pow", f.Pow(x, 0), 0, x, 0)
		expect(t, "Inv", f.Inv(x), 0, x)
		expect(t, "Lift", f.Lift(x), 0, x)
		expect(t, "Times", f.Times(x, y), 0, x, y)
	}
	for _, n := range lengths(7) {
		if f.Divides(n) {
			t.Errorf("Divides(%d)", n)
		}
		if root, err := f.Root(n); root != 0 || err != api.ErrNil {
			t.Errorf("Root(%d): %d, %d", n, root, err)
		}
	}
}

// P6.1: fields know nothing of one another, and a call leaves no trace.
func TestFieldsStandAlone(t *testing.T) {
	first, second := small(t, 7), small(t, 17)
	for range 2 {
		expect(t, "Mul", first.Mul(5, 5), 4, 5, 5)
		expect(t, "Mul", second.Mul(5, 5), 8, 5, 5)
		expect(t, "Inv", first.Inv(3), 5, 3)
		expect(t, "Inv", second.Inv(3), 6, 3)
		expect(t, "P", first.P(), 7)
		expect(t, "P", second.P(), 17)
	}
}

// expectLaws: what holds of three residues of a field.
func expectLaws(t *testing.T, f *Field, x, y, z uint64) {
	t.Helper()
	of := []uint64{x, y, z, f.P()}
	expect(t, "x + y", f.Add(x, y), f.Add(y, x), of...)
	expect(t, "x y", f.Mul(x, y), f.Mul(y, x), of...)
	expect(t, "(x + y) + z", f.Add(f.Add(x, y), z), f.Add(x, f.Add(y, z)), of...)
	expect(t, "(x y) z", f.Mul(f.Mul(x, y), z), f.Mul(x, f.Mul(y, z)), of...)
	expect(t, "x (y + z)", f.Mul(x, f.Add(y, z)), f.Add(f.Mul(x, y), f.Mul(x, z)), of...)
	expect(t, "x + 0", f.Add(x, 0), x, of...)
	expect(t, "1 x", f.Mul(1, x), x, of...)
	expect(t, "x - x", f.Add(x, f.Neg(x)), 0, of...)
	expect(t, "(x - y) + y", f.Add(f.Sub(x, y), y), x, of...)
	if x != 0 {
		expect(t, "x by x", f.Mul(x, f.Inv(x)), 1, of...)
		expect(t, "(x y) by x", f.Mul(f.Mul(x, y), f.Inv(x)), y, of...)
	}
	for _, answer := range []uint64{f.Add(x, y), f.Sub(x, y), f.Neg(x), f.Mul(x, y), f.Pow(x, y), f.Inv(x), f.Lift(x), f.Times(x, y)} {
		if answer >= f.P() {
			t.Fatalf("of %v: %d is no residue", of, answer)
		}
	}
}

// P6.2: residues are a field: of small primes all of them, of others the edges and mingled ones.
func TestLaws(t *testing.T) {
	for _, p := range []uint64{3, 5, 7, 11, 13, 17, 19, 23} {
		f := small(t, p)
		for x := range p {
			for y := range p {
				for z := range p {
					expectLaws(t, f, x, y, z)
				}
			}
		}
	}
	for _, f := range fields(t) {
		p := f.P()
		more := mingled(600)
		for i := 0; i+3 <= len(more); i += 3 {
			expectLaws(t, f, more[i]%p, more[i+1]%p, more[i+2]%p)
		}
		ends := []uint64{0, 1, 2, p / 2, p/2 + 1, p - 2, p - 1}
		for _, x := range ends {
			for _, y := range ends {
				for _, z := range ends {
					expectLaws(t, f, x, y, z)
				}
			}
		}
	}
}

// P6.2: every residue but 0 has an inverse, each its own, that goes back to it.
func TestInversesOfAll(t *testing.T) {
	for _, p := range []uint64{3, 257, 7681} {
		f := small(t, p)
		met := make([]bool, p)
		for x := uint64(1); x < p; x++ {
			inverse := f.Inv(x)
			if inverse == 0 || met[inverse] || f.Mul(x, inverse) != 1 || f.Inv(inverse) != x {
				t.Fatalf("Inv of %d modulo %d: %d", x, p, inverse)
			}
			met[inverse] = true
		}
	}
}

// sum: n powers of a number, of exponents 0, k, 2 k and so on, reckoned apart from the field.
func sum(root, k uint64, n int, p uint64) uint64 {
	step := bigOf(power(root, k, p))
	total, term, prime := new(big.Int), big.NewInt(1), bigOf(p)
	for range n {
		total.Add(total, term)
		term.Mul(term, step).Mod(term, prime)
	}
	return rest(total, p)
}

// P6.3: of small primes, all roots: which powers are 1, and all sums of powers.
func TestRootsOfSmallPrimes(t *testing.T) {
	for _, p := range []uint64{3, 5, 7, 13, 17, 31, 37, 61, 73} {
		f := small(t, p)
		for n := 1; n < int(p); n++ {
			root, err := f.Root(n)
			if (p-1)%uint64(n) != 0 {
				continue
			}
			if err != api.OK {
				t.Fatalf("Root(%d) of %d: %d", n, p, err)
			}
			for k := range uint64(3*n + 1) {
				whole := k%uint64(n) == 0
				if (f.Pow(root, k) == 1) != whole || (power(root, k, p) == 1) != whole {
					t.Fatalf("Root(%d) of %d, to the %d-th: %d", n, p, k, f.Pow(root, k))
				}
				want := uint64(0)
				if whole {
					want = uint64(n) % p
				}
				expect(t, "the sum", sum(root, k, n, p), want, uint64(n), k, p)
			}
		}
	}
}

// P6.3: the sum of powers by the field's own calls, of all fields and of lengths up to 64.
func TestSumsOfRoots(t *testing.T) {
	for _, f := range fields(t) {
		for n := 1; n <= 64; n++ {
			root, err := f.Root(n)
			if err != api.OK {
				continue
			}
			for _, k := range []uint64{0, 1, 2, uint64(n) - 1, uint64(n), uint64(n) + 1, 12, 64, 7 * uint64(n)} {
				total := uint64(0)
				for i := range uint64(n) {
					total = f.Add(total, f.Pow(root, i*k))
				}
				want := uint64(0)
				if k%uint64(n) == 0 {
					want = uint64(n) % f.P()
				}
				expect(t, "the sum", total, want, uint64(n), k, f.P())
				expect(t, "the sum apart", sum(root, k, n, f.P()), want, uint64(n), k, f.P())
			}
		}
	}
}

// divisors: all divisors of p - 1, by the field's factors.
func divisors(f *Field) []uint64 {
	all := []uint64{1}
	for _, factor := range f.Factors() {
		times := uint64(1)
		ahead := slices.Clone(all)
		for range factor.E {
			times *= factor.Q
			for _, d := range ahead {
				all = append(all, d*times)
			}
		}
	}
	return all
}

// P6.3: of all fields and all orders that there are: the n-th power is 1, and none that a prime divides off.
func TestOrdersOfRoots(t *testing.T) {
	for _, f := range fields(t) {
		p := f.P()
		for _, n := range divisors(f) {
			root, err := f.Root(int(n))
			if err != api.OK || f.Pow(root, n) != 1 || power(root, n, p) != 1 {
				t.Fatalf("Root(%d) of %d: %d, %d", n, p, root, err)
			}
			for _, factor := range f.Factors() {
				if n%factor.Q == 0 && (f.Pow(root, n/factor.Q) == 1 || power(root, n/factor.Q, p) == 1) {
					t.Fatalf("Root(%d) of %d: its order divides %d", n, p, n/factor.Q)
				}
			}
		}
	}
}

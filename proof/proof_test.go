package proof

import (
	"math"
	"math/big"
	"reflect"
	"slices"
	"testing"

	"epicycle/api"
)

const top = math.MaxUint64

func bigOf(a uint64) *big.Int { return new(big.Int).SetUint64(a) }

// isPrime: what math/big says, which is sure below 2^64.
func isPrime(p uint64) bool { return bigOf(p).ProbablyPrime(20) }

// isOne: whether a power is 1 modulo p.
func isOne(g, e, p uint64) bool {
	return new(big.Int).Exp(bigOf(g), bigOf(e), bigOf(p)).Cmp(big.NewInt(1)) == 0
}

// factorsOf: the prime factors of a number whose greatest but one is small.
func factorsOf(n uint64) []Power {
	var all []Power
	for q := uint64(2); n > 1; q++ {
		if isPrime(n) {
			q = n
		}
		count := 0
		for n%q == 0 {
			n /= q
			count++
		}
		if count > 0 {
			all = append(all, Power{Q: q, E: count})
		}
	}
	return all
}

// generatorOf: the least G that is right for a prime.
func generatorOf(p uint64) uint64 {
	for g := uint64(2); ; g++ {
		if !slices.ContainsFunc(factorsOf(p-1), func(f Power) bool { return isOne(g, (p-1)/f.Q, p) }) {
			return g
		}
	}
}

// entryOf: an entry that is right for a prime, if what it needs is ahead.
func entryOf(p uint64) Entry {
	return Entry{P: p, G: generatorOf(p), Factors: factorsOf(p - 1)}
}

// rowOf: the least row that is right and proves the odd primes that are named.
func rowOf(primes ...uint64) []Entry {
	var all []Entry
	for wanted := slices.Clone(primes); len(wanted) > 0; wanted = wanted[1:] {
		if p := wanted[0]; p != 2 && !slices.ContainsFunc(all, func(e Entry) bool { return e.P == p }) {
			all = append(all, entryOf(p))
			for _, factor := range factorsOf(p - 1) {
				wanted = append(wanted, factor.Q)
			}
		}
	}
	slices.SortFunc(all, func(a, b Entry) int { return bigOf(a.P).Cmp(bigOf(b.P)) })
	return all
}

// rowAhead: the row that proves the odd factors of p - 1.
func rowAhead(p uint64) []Entry {
	var odd []uint64
	for _, factor := range factorsOf(p - 1)[1:] {
		odd = append(odd, factor.Q)
	}
	return rowOf(odd...)
}

// with: a row of its own memory, and one entry more.
func with(row []Entry, more ...Entry) []Entry { return append(copied(row), copied(more)...) }

func copied(row []Entry) []Entry {
	all := slices.Clone(row)
	for i := range all {
		all[i].Factors = slices.Clone(all[i].Factors)
	}
	return all
}

// oddPrimes: the least of them.
func oddPrimes(count int) []uint64 {
	var all []uint64
	for p := uint64(3); len(all) < count; p += 2 {
		if isPrime(p) {
			all = append(all, p)
		}
	}
	return all
}

// greatest: the greatest prime below a bound that parts by 1 from a multiple of 2^40.
func greatest(below uint64) uint64 {
	for p := below - 1<<40 + 1; ; p -= 1 << 40 {
		if isPrime(p) {
			return p
		}
	}
}

// manyFactored: a prime P below 2^63 for which P - 1 has 15 factors; none has more.
func manyFactored() uint64 {
	product := uint64(2)
	for _, q := range oddPrimes(13) {
		product *= q
	}
	for q := uint64(47); ; q += 2 {
		if isPrime(q) && isPrime(product*q+1) {
			return product*q + 1
		}
	}
}

// rightRows: ordinary rows, and those at the edges of what may be.
func rightRows() [][]Entry {
	return [][]Entry{
		nil,
		{},
		rowOf(3),
		rowOf(5),
		rowOf(7),
		rowOf(23, 29, 31, 97),
		rowOf(65537, 998244353),
		rowOf(2*205891132094649 + 1),
		rowOf(1<<61 - 1),
		rowOf(1945555039024054273, 4179340454199820289),
		rowOf(greatest(1 << 63)),
		rowOf(manyFactored()),
		rowOf(oddPrimes(api.MaxEntries)...),
	}
}

// rightByBig: whether an entry is right, as the chapter says it, in numbers that never go round.
func rightByBig(ahead []Entry, e Entry) bool {
	if e.P%2 == 0 || e.P < 3 || e.P >= 1<<63 || len(ahead) > 0 && e.P <= ahead[len(ahead)-1].P {
		return false
	}
	if len(e.Factors) < 1 || len(e.Factors) > 16 || e.Factors[0].Q != 2 || e.G < 2 || e.G >= e.P {
		return false
	}
	product := big.NewInt(1)
	for i, f := range e.Factors {
		if f.E < 1 || f.E > 62 {
			return false
		}
		if i > 0 && (f.Q <= e.Factors[i-1].Q || !slices.ContainsFunc(ahead, func(a Entry) bool { return a.P == f.Q })) {
			return false
		}
		product.Mul(product, new(big.Int).Exp(bigOf(f.Q), big.NewInt(int64(f.E)), nil))
	}
	if product.Cmp(bigOf(e.P-1)) != 0 || !isOne(e.G, e.P-1, e.P) {
		return false
	}
	return !slices.ContainsFunc(e.Factors, func(f Power) bool { return isOne(e.G, (e.P-1)/f.Q, e.P) })
}

// checkByBig: what Check is to answer.
func checkByBig(row []Entry) (int, api.Errno) {
	if len(row) > 32 {
		return 0, api.ErrLong
	}
	for i, e := range row {
		if !rightByBig(row[:i], e) {
			return i, api.ErrProof
		}
	}
	return 0, api.OK
}

// holds: tells if Check doesn't answer so of a row, or Claim finds what it mustn't.
func holds(t *testing.T, row []Entry, at int, err api.Errno) {
	t.Helper()
	if gotAt, gotErr := Check(row); gotAt != at || gotErr != err {
		t.Errorf("Check(%v) = %d, %d; %d, %d asked", row, gotAt, gotErr, at, err)
	}
	for _, asked := range row {
		entry, ok := Claim(row, asked.P)
		if ok != (err == api.OK) {
			t.Errorf("Claim(%v, %d) = %v, %v", row, asked.P, entry, ok)
		}
		if ok && !reflect.DeepEqual(entry, asked) || !ok && !isEmpty(entry) {
			t.Errorf("Claim(%v, %d) = %v", row, asked.P, entry)
		}
	}
}

func isEmpty(e Entry) bool { return e.P == 0 && e.G == 0 && len(e.Factors) == 0 }

// refused: tells if the last entry of a row isn't told to be the first that isn't right.
func refused(t *testing.T, row []Entry) {
	t.Helper()
	holds(t, row, len(row)-1, api.ErrProof)
}

// P4.1: rows that are right, of no entry to MaxEntries.
func TestRightRows(t *testing.T) {
	for _, row := range rightRows() {
		holds(t, row, 0, api.OK)
	}
	if row := rightRows()[len(rightRows())-1]; len(row) != api.MaxEntries {
		t.Errorf("%d entries", len(row))
	}
	if last := rowOf(manyFactored()); len(last[len(last)-1].Factors) != 15 {
		t.Errorf("%d factors", len(last[len(last)-1].Factors))
	}
}

// P4.1: the chapter's examples.
func TestExamples(t *testing.T) {
	three := Entry{P: 3, G: 2, Factors: []Power{{2, 1}}}
	seven := Entry{P: 7, G: 3, Factors: []Power{{2, 1}, {3, 1}}}
	holds(t, []Entry{three, seven}, 0, api.OK)
	for g := range uint64(12) {
		refused(t, []Entry{{P: 9, G: g, Factors: []Power{{2, 3}}}})
		refused(t, []Entry{three, seven, {P: 9, G: g, Factors: []Power{{2, 3}}}})
	}
}

// P4.1: rows of more than MaxEntries are too long, whether their entries are right or not.
func TestTooLong(t *testing.T) {
	row := rowOf(oddPrimes(api.MaxEntries + 1)...)
	if len(row) != api.MaxEntries+1 {
		t.Fatalf("%d entries", len(row))
	}
	holds(t, row, 0, api.ErrLong)
	row[0].G = 1
	holds(t, row, 0, api.ErrLong)
	holds(t, make([]Entry, api.MaxEntries+1), 0, api.ErrLong)
	holds(t, make([]Entry, 1000), 0, api.ErrLong)
	holds(t, make([]Entry, api.MaxEntries), 0, api.ErrProof)
	row = rowOf(oddPrimes(api.MaxEntries)...)
	row[api.MaxEntries-1].G = 1
	refused(t, row)
}

// P4.1: P is odd, from 3 on, below 2^63.
func TestWhatPMayBe(t *testing.T) {
	for _, p := range []uint64{0, 1, 2, 4, 6, 1 << 62, 1<<63 - 2, 1 << 63, 1<<63 + 1, top - 1, top} {
		for _, g := range []uint64{0, 1, 2, 3, p - 1} {
			for _, factors := range [][]Power{nil, {{2, 1}}, {{2, 62}}, {{2, 63}}, {{2, 64}}} {
				refused(t, []Entry{{P: p, G: g, Factors: factors}})
			}
		}
	}
	refused(t, rowOf(greatest(1<<63+1<<47)))
	if row := rowOf(greatest(1 << 63)); row[len(row)-1].P < 1<<63-1<<50 {
		t.Errorf("%d isn't near 2^63", row[len(row)-1].P)
	}
}

// P4.1: P is greater than the one right ahead.
func TestPsClimb(t *testing.T) {
	refused(t, with(rowOf(3), entryOf(3)))
	refused(t, with(rowOf(3, 5), entryOf(5)))
	refused(t, with(rowOf(5), entryOf(3)))
	refused(t, with(rowOf(3, 17), entryOf(5)))
	refused(t, with(rowOf(7, 11), entryOf(7)))
	holds(t, with(rowOf(3), entryOf(5), entryOf(17)), 0, api.OK)
	holds(t, with(rowOf(3), entryOf(17), entryOf(5), entryOf(19)), 2, api.ErrProof)
}

// P4.1: there are 1 to MaxFactors factors.
func TestHowManyFactors(t *testing.T) {
	refused(t, []Entry{{P: 3, G: 2}})
	refused(t, []Entry{{P: 3, G: 2, Factors: []Power{}}})
	refused(t, with(rowOf(3), Entry{P: 5, G: 2}))
	ahead := rowOf(oddPrimes(api.MaxFactors)...)
	many := []Power{{2, 1}}
	for _, entry := range ahead {
		many = append(many, Power{entry.P, 1})
	}
	product := uint64(1)
	for _, factor := range many[:api.MaxFactors] {
		product *= factor.Q
	}
	for _, p := range []uint64{product + 1, 614889782588491411, 1<<61 - 1, 1<<63 - 25} {
		for g := range uint64(8) {
			refused(t, with(ahead, Entry{P: p, G: g, Factors: many[:api.MaxFactors]}))
			refused(t, with(ahead, Entry{P: p, G: g, Factors: many}))
		}
	}
	// Factors that are right, and others behind them that make up the number.
	p := manyFactored()
	for count := 16; count <= 18; count++ {
		entry := entryOf(p)
		for len(entry.Factors) < count {
			entry.Factors = append(entry.Factors, Power{Q: 1, E: 1})
		}
		refused(t, with(rowAhead(p), entry))
	}
}

// P4.1: the first Q is 2, also where the product is right without it.
func TestFirstQ(t *testing.T) {
	three := rowOf(3)
	refused(t, []Entry{{P: 17, G: 3, Factors: []Power{{4, 2}}}})
	refused(t, []Entry{{P: 17, G: 3, Factors: []Power{{16, 1}}}})
	refused(t, []Entry{{P: 3, G: 2, Factors: []Power{{0, 1}}}})
	refused(t, []Entry{{P: 3, G: 2, Factors: []Power{{1, 1}, {2, 1}}}})
	refused(t, []Entry{{P: 3, G: 2, Factors: []Power{{top, 1}}}})
	refused(t, with(three, Entry{P: 7, G: 3, Factors: []Power{{3, 1}}}))
	refused(t, with(three, Entry{P: 7, G: 3, Factors: []Power{{3, 1}, {2, 1}}}))
	refused(t, with(three, Entry{P: 7, G: 3, Factors: []Power{{6, 1}}}))
	refused(t, with(three, Entry{P: 13, G: 2, Factors: []Power{{4, 1}, {3, 1}}}))
	refused(t, with(rowOf(3, 5), Entry{P: 31, G: 3, Factors: []Power{{6, 1}, {5, 1}}}))
}

// P4.1: each other Q is greater than the one ahead of it, and the P of an entry ahead.
func TestOtherQs(t *testing.T) {
	rows := [][]Power{
		{{2, 1}, {2, 1}},
		{{2, 1}, {5, 1}, {3, 1}},
		{{2, 1}, {3, 1}, {3, 1}, {5, 1}},
		{{2, 1}, {3, 1}, {2, 1}},
		{{2, 1}, {15, 1}},
		{{2, 1}, {0, 1}},
		{{2, 1}, {1, 1}},
	}
	for _, factors := range rows {
		product := uint64(1)
		for _, factor := range factors {
			product *= factor.Q
		}
		for g := range product + 2 {
			refused(t, with(rowOf(3), Entry{P: max(product+1, 5), G: g, Factors: factors}))
			refused(t, with(rowOf(3, 5, 7, 11, 13), Entry{P: max(product+1, 17), G: g, Factors: factors}))
		}
	}
	refused(t, with(rowOf(3, 5), Entry{P: 31, G: 3, Factors: []Power{{2, 1}, {5, 1}, {3, 1}}}))
	refused(t, with(rowOf(3), Entry{P: 19, G: 2, Factors: []Power{{2, 1}, {3, 1}, {3, 1}}}))
	// The proof of a factor is missing, stands behind, or is the entry itself.
	refused(t, []Entry{entryOf(7)})
	refused(t, with(rowOf(3), entryOf(11)))
	refused(t, with(rowOf(5), entryOf(31)))
	holds(t, []Entry{entryOf(7), entryOf(3)}, 0, api.ErrProof)
	refused(t, with(rowOf(3), Entry{P: 7, G: 3, Factors: []Power{{2, 1}, {7, 1}}}))
	// What is asked is the whole row ahead, not the entry right ahead alone.
	holds(t, with(rowOf(3, 5, 17), entryOf(19), entryOf(31)), 0, api.OK)
}

// P4.1: each E is from 1 to 62.
func TestHowOften(t *testing.T) {
	for _, e := range []int{0, -1, -2, -62, -63, -64, math.MinInt, 62, 63, 64, 65, 126, 128, math.MaxInt} {
		for _, p := range []uint64{3, 5, 7, 17, 1<<61 - 1, 1<<62 + 1, 1<<63 - 1} {
			refused(t, []Entry{{P: p, G: 3 - p%3, Factors: []Power{{2, e}}}})
		}
		// Beside factors that are right a factor that is none, so often.
		refused(t, with(rowOf(3), Entry{P: 5, G: 2, Factors: []Power{{2, 2}, {3, e}}}))
		refused(t, with(rowOf(3), Entry{P: 17, G: 3, Factors: []Power{{2, 4}, {3, e}}}))
		refused(t, with(rowOf(3, 5), Entry{P: 7, G: 3, Factors: []Power{{2, 1}, {3, 1}, {5, e}}}))
	}
	for g := range uint64(50) {
		refused(t, []Entry{{P: 1<<62 + 1, G: g, Factors: []Power{{2, 62}}}})
	}
	holds(t, []Entry{{P: 3, G: 2, Factors: []Power{{2, 1}}}}, 0, api.OK)
	holds(t, rowOf(29<<57+1), 0, api.OK)
}

// P4.1: all Q to their E, multiplied, are P - 1.
func TestProduct(t *testing.T) {
	ahead := rowOf(3, 5, 7)
	for _, factors := range [][]Power{
		{{2, 1}}, {{2, 2}}, {{2, 4}}, {{2, 3}, {3, 1}}, {{2, 1}, {3, 2}}, {{2, 2}, {3, 1}, {5, 1}},
		{{2, 1}, {5, 1}}, {{2, 2}, {7, 1}}, {{2, 62}}, {{2, 2}, {3, 62}}, {{2, 62}, {3, 62}, {5, 62}, {7, 62}},
	} {
		for g := range uint64(14) {
			refused(t, with(ahead, Entry{P: 13, G: g, Factors: factors}))
		}
	}
}

// P4.1: products that are P - 1 only modulo 2^64, of P that are primes, with a G of which all else holds.
func TestProductGoesRound(t *testing.T) {
	seen := 0
	for twos := 1; twos <= 62; twos++ {
		product := uint64(1) << twos
		for threes := 1; threes <= 62; threes++ {
			product *= 3
			p := product + 1
			if float64(threes)*math.Log2(3)+float64(twos) < 64.5 || p < 5 || p >= 1<<63 || !isPrime(p) {
				continue
			}
			seen++
			g := uint64(2)
			for isOne(g, (p-1)/2, p) || isOne(g, (p-1)/3, p) {
				g++
			}
			refused(t, with(rowOf(3), Entry{P: p, G: g, Factors: []Power{{2, twos}, {3, threes}}}))
		}
	}
	if seen < 5 {
		t.Errorf("%d such primes alone", seen)
	}
}

// P4.1: G is from 2 on, below P.
func TestWhatGMayBe(t *testing.T) {
	for _, p := range []uint64{3, 5, 7, 17, 97, 998244353, 1<<61 - 1, greatest(1 << 63)} {
		entry := entryOf(p)
		least := entry.G
		for _, g := range []uint64{0, 1, p - 1, p, p + 1, least + p, top / p * p, top} {
			if entry.G = g; p != 3 || g != 2 {
				refused(t, with(rowAhead(p), entry))
			}
		}
		entry.G = least
		holds(t, with(rowAhead(p), entry), 0, api.OK)
	}
}

// P4.1: the (P - 1)-th power of G is 1, of P that are no primes: also where all else holds.
func TestWholePower(t *testing.T) {
	for _, p := range []uint64{9, 15, 21, 25, 33, 341, 561, 1105, 1729, 2821, 65535} {
		entry := Entry{P: p, Factors: factorsOf(p - 1)}
		for entry.G = 0; entry.G <= min(p+1, 3000); entry.G++ {
			refused(t, with(rowAhead(p), entry))
		}
	}
}

// P4.1: the (P - 1) / Q-th power of G isn't 1, for none of the Q, be it the first, the last or one between.
func TestPartPowers(t *testing.T) {
	for _, p := range []uint64{31, 43, 211, 2311, 998244353, 4179340454199820289} {
		for _, factor := range factorsOf(p - 1) {
			entry := entryOf(p)
			power := new(big.Int).Exp(bigOf(entry.G), bigOf(factor.Q), bigOf(p))
			entry.G = power.Uint64()
			refused(t, with(rowAhead(p), entry))
		}
	}
}

// P4.1: the first entry that isn't right is told, and no later one.
func TestFirstOfSeveral(t *testing.T) {
	row := rowOf(oddPrimes(12)...)
	for first := range row {
		for second := first; second < len(row); second++ {
			wrong := copied(row)
			wrong[first].G = 1
			wrong[second].G = 0
			holds(t, wrong, first, api.ErrProof)
			wrong[second].Factors = nil
			wrong[second].P--
			holds(t, wrong, first, api.ErrProof)
		}
	}
}

// P4.1: Claim finds what is there, and nothing else.
func TestClaim(t *testing.T) {
	row := rowOf(23, 29, 31, 97)
	for p := range uint64(120) {
		entry, ok := Claim(row, p)
		at := slices.IndexFunc(row, func(e Entry) bool { return e.P == p })
		if ok != (at >= 0) {
			t.Errorf("Claim(%d) = %v, %v", p, entry, ok)
		}
		if !ok && !isEmpty(entry) || ok && !reflect.DeepEqual(entry, row[at]) {
			t.Errorf("Claim(%d) = %v", p, entry)
		}
	}
	for _, p := range []uint64{0, 2, 3, top} {
		if entry, ok := Claim(nil, p); ok || !isEmpty(entry) {
			t.Errorf("Claim(nil, %d) = %v, %v", p, entry, ok)
		}
	}
	if entry, ok := Claim(make([]Entry, 1), 0); ok || !isEmpty(entry) {
		t.Errorf("of an empty entry: %v, %v", entry, ok)
	}
	// A prime that is proved, in a row that isn't right further on.
	wrong := with(row, Entry{P: 99, G: 2, Factors: []Power{{2, 1}, {7, 2}}})
	if entry, ok := Claim(wrong, 3); ok || !isEmpty(entry) {
		t.Errorf("of a row that isn't right: %v, %v", entry, ok)
	}
}

// P4.1: a row is as it was, spare room included, and what Claim answers is new memory.
func TestMemory(t *testing.T) {
	row := rowOf(23, 29, 31, 97)
	for i := range row {
		row[i].Factors = append(row[i].Factors, Power{5, 5}, Power{7, 7})
		row[i].Factors = row[i].Factors[:len(row[i].Factors)-2]
	}
	was := copied(row)
	entry, ok := Claim(row, 31)
	if !ok {
		t.Fatal("31 isn't found")
	}
	for i := range entry.Factors {
		entry.Factors[i] = Power{9, 9}
	}
	_ = append(entry.Factors, Power{8, 8})
	if !reflect.DeepEqual(row, was) {
		t.Errorf("%v was %v", row, was)
	}
	for _, e := range row {
		if spare := e.Factors[len(e.Factors) : len(e.Factors)+2]; spare[0] != (Power{5, 5}) || spare[1] != (Power{7, 7}) {
			t.Errorf("spare room: %v", spare)
		}
	}
	entry, _ = Claim(row, 31)
	for i := range row {
		row[i].Factors[0] = Power{4, 4}
	}
	if want := entryOf(31); !reflect.DeepEqual(entry, want) {
		t.Errorf("%v, not %v", entry, want)
	}
}

// P4.1: rows that are right, changed in one or two places, against the chapter's words in great numbers.
func TestChangedRows(t *testing.T) {
	right, wrong := 0, 0
	for _, row := range rightRows()[2:] {
		for seed := range uint64(800) {
			changed := copied(row)
			dice := seed*0x9E3779B97F4A7C15 + uint64(len(row))
			for range 1 + seed%2 {
				dice = change(changed, dice)
			}
			at, err := checkByBig(changed)
			was := copied(changed)
			holds(t, changed, at, err)
			if !reflect.DeepEqual(changed, was) {
				t.Fatalf("%v was %v", changed, was)
			}
			if err == api.OK {
				right++
			} else {
				wrong++
			}
		}
	}
	if right < 100 || wrong < 1000 {
		t.Errorf("%d right rows, %d wrong ones", right, wrong)
	}
}

// change: one part of a row becomes another, as the dice have it; the next dice.
func change(row []Entry, dice uint64) uint64 {
	next := func(below int) int {
		dice ^= dice << 13
		dice ^= dice >> 7
		dice ^= dice << 17
		return int(dice >> 20 % uint64(below))
	}
	entry := &row[next(len(row))]
	near := []uint64{0, 1, 2, 3, 5, 6, 7, entry.P - 1, entry.P + 2, entry.P / 2, 1 << 63, top, row[next(len(row))].P}
	value := near[next(len(near))]
	switch next(8) {
	case 0:
		entry.P = value
	case 1, 2, 3:
		entry.G = value
	case 4:
		entry.Factors = append(entry.Factors, Power{value, next(4) - 1})
	case 5:
		if len(entry.Factors) > 0 {
			entry.Factors = slices.Delete(entry.Factors, 0, 1)
		}
	case 6:
		if len(entry.Factors) > 0 {
			entry.Factors[next(len(entry.Factors))].Q = value
		}
	case 7:
		if len(entry.Factors) > 0 {
			entry.Factors[next(len(entry.Factors))].E = []int{-1, 0, 1, 2, 3, 62, 63, math.MaxInt}[next(8)]
		}
	}
	return dice
}

// P4.2: of all small P and all G an entry is right if, and only if, the powers of G are all numbers below P.
func TestSmallProofs(t *testing.T) {
	for p := uint64(3); p < 300; p += 2 {
		row := with(rowAhead(p), Entry{P: p, Factors: factorsOf(p - 1)})
		for g := range p + 3 {
			row[len(row)-1].G = g
			_, err := Check(row)
			if (err == api.OK) != (g >= 2 && g < p && reachesAll(g, p)) {
				t.Errorf("P %d, G %d: %d", p, g, err)
			}
			if err == api.OK && !isPrime(p) {
				t.Errorf("%d is proved", p)
			}
		}
	}
}

// reachesAll: whether each number from 1 to p - 1 is a power of g.
func reachesAll(g, p uint64) bool {
	met := make([]bool, p)
	for power, steps := uint64(1), uint64(0); steps < p; steps++ {
		met[power] = true
		power = power * g % p
	}
	return !met[0] && !slices.Contains(met[1:], false)
}

// P4.2: numbers that look like primes are never proved, with whatever factors and G.
func TestNoPrimes(t *testing.T) {
	ahead := rowOf(oddPrimes(30)...)
	for _, p := range []uint64{561, 1729, 2047, 3215031751, 3825123056546413051, 1<<62 + 1, 1<<62 - 1, 1<<63 - 1} {
		left, factors := p-1, []Power(nil)
		for _, q := range append([]uint64{2}, oddPrimes(30)...) {
			count := 0
			for ; left%q == 0; left /= q {
				count++
			}
			if count > 0 {
				factors = append(factors, Power{q, count})
			}
		}
		for g := range uint64(400) {
			row := slices.DeleteFunc(copied(ahead), func(e Entry) bool { return e.P >= p })
			row = append(row, Entry{P: p, G: g, Factors: factors})
			if at, err := Check(row); at != len(row)-1 || err != api.ErrProof {
				t.Errorf("%d is proved by %d: %d, %d", p, g, at, err)
			}
		}
	}
}

// P4.2: in all rows that are right each P is a prime, and G has no less order than P - 1.
func TestRightRowsProve(t *testing.T) {
	for _, row := range rightRows() {
		if _, err := Check(row); err != api.OK {
			t.Errorf("%v: %d", row, err)
		}
		for _, e := range row {
			if !isPrime(e.P) {
				t.Errorf("%d is proved", e.P)
			}
			for _, factor := range factorsOf(e.P - 1) {
				if isOne(e.G, (e.P-1)/factor.Q, e.P) {
					t.Errorf("P %d: the order of %d divides (P - 1) / %d", e.P, e.G, factor.Q)
				}
			}
		}
	}
}

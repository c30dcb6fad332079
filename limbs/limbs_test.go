package limbs

import (
	"math"
	"math/big"
	"testing"
)

const full = math.MaxUint64

var top = Three{full, full, full}

// words: limbs at and about the edges, and ordinary ones.
func words() []uint64 {
	return []uint64{0, 1, 2, 7, 1 << 32, chunk - 1, chunk, 1<<63 - 1, 1 << 63, 1<<63 + 1, full - 1, full, 0x0123456789abcdef}
}

// threes: numbers of all limbs of a short choice, and a walk of mingled ones.
func threes() []Three {
	few := []uint64{0, 1, 1<<63 - 1, 1 << 63, full}
	var all []Three
	for _, a := range few {
		for _, b := range few {
			for _, c := range few {
				all = append(all, Three{a, b, c})
			}
		}
	}
	x := uint64(88172645463325252)
	next := func() uint64 {
		x ^= x << 13
		x ^= x >> 7
		x ^= x << 17
		return x
	}
	for range 60 {
		all = append(all, Three{next(), next(), next()}, Three{next(), next()}, Three{next()})
	}
	return all
}

// moves: by how much bits are moved: all that can be, and what is taken for 0 or 192.
func moves() []int {
	all := []int{math.MinInt, -193, -192, -64, -1, 193, 255, 256, 1 << 32, math.MaxInt}
	for n := 0; n <= 192; n++ {
		all = append(all, n)
	}
	return all
}

func bigOf(a Three) *big.Int {
	n := new(big.Int)
	for i := 2; i >= 0; i-- {
		n.Lsh(n, 64).Or(n, new(big.Int).SetUint64(a[i]))
	}
	return n
}

// round: 2^192.
func round() *big.Int { return new(big.Int).Lsh(big.NewInt(1), 192) }

// signed: the number that a is with a sign.
func signed(a Three) *big.Int {
	n := bigOf(a)
	if n.Bit(191) == 1 {
		n.Sub(n, round())
	}
	return n
}

// fold: a number's Three, going round, and what stands above.
func fold(n *big.Int) (Three, *big.Int) {
	above, low := new(big.Int).DivMod(n, round(), new(big.Int))
	var a Three
	mask := new(big.Int).SetUint64(full)
	for i := range a {
		a[i] = new(big.Int).And(low, mask).Uint64()
		low.Rsh(low, 64)
	}
	return a, above
}

func TestTimes(t *testing.T) { // P1.1
	for _, a := range words() {
		for _, b := range words() {
			want, _ := fold(new(big.Int).Mul(bigOf(Three{a}), bigOf(Three{b})))
			if high, low := Times(a, b); (Three{low, high}) != want {
				t.Errorf("Times(%d, %d) = %d, %d", a, b, high, low)
			}
		}
	}
}

func TestAddAndSub(t *testing.T) { // P1.1
	for _, a := range threes() {
		for _, b := range threes() {
			want, above := fold(new(big.Int).Add(bigOf(a), bigOf(b)))
			if got, went := Add(a, b); got != want || went != (above.Sign() != 0) {
				t.Fatalf("Add(%x, %x) = %x, %v", a, b, got, went)
			}
			want, above = fold(new(big.Int).Sub(bigOf(a), bigOf(b)))
			if got, went := Sub(a, b); got != want || went != (above.Sign() != 0) {
				t.Fatalf("Sub(%x, %x) = %x, %v", a, b, got, went)
			}
		}
	}
}

func TestAddAndSubAtTheEdges(t *testing.T) { // P1.1
	one := Three{1}
	if s, went := Add(top, one); s != (Three{}) || !went {
		t.Errorf("the greatest and 1: %x, %v", s, went)
	}
	if s, went := Add(Three{full, full, full - 1}, one); s != (Three{0, 0, full}) || went {
		t.Errorf("a carry through two limbs: %x, %v", s, went)
	}
	if s, went := Add(top, top); s != (Three{full - 1, full, full}) || !went {
		t.Errorf("the greatest, twice: %x, %v", s, went)
	}
	if d, went := Sub(Three{}, one); d != top || !went {
		t.Errorf("0 less 1: %x, %v", d, went)
	}
	if d, went := Sub(Three{0, 0, 1}, one); d != (Three{full, full, 0}) || went {
		t.Errorf("a borrow through two limbs: %x, %v", d, went)
	}
	if d, went := Sub(top, top); d != (Three{}) || went {
		t.Errorf("the greatest less itself: %x, %v", d, went)
	}
}

func TestNeg(t *testing.T) { // P1.1
	for _, a := range threes() {
		if want, _ := fold(new(big.Int).Neg(bigOf(a))); Neg(a) != want {
			t.Errorf("Neg(%x) = %x", a, Neg(a))
		}
	}
	least := Three{0, 0, 1 << 63}
	if Neg(Three{}) != (Three{}) || Neg(least) != least || Neg(Three{1}) != top {
		t.Errorf("%x, %x, %x", Neg(Three{}), Neg(least), Neg(Three{1}))
	}
}

func TestScale(t *testing.T) { // P1.1
	for _, a := range threes() {
		for _, k := range words() {
			want, above := fold(new(big.Int).Mul(bigOf(a), bigOf(Three{k})))
			if got, high := Scale(a, k); got != want || high != above.Uint64() {
				t.Fatalf("Scale(%x, %d) = %x, %d", a, k, got, high)
			}
		}
	}
	if p, above := Scale(top, full); p != (Three{1, full, full}) || above != full-1 {
		t.Errorf("both greatest: %x, %x", p, above)
	}
}

func TestCompare(t *testing.T) { // P1.1
	for _, a := range threes() {
		for _, b := range threes() {
			if got := Compare(a, b); got != bigOf(a).Cmp(bigOf(b)) {
				t.Fatalf("Compare(%x, %x) = %d", a, b, got)
			}
		}
	}
	if Compare(Three{full, full, 0}, Three{0, 0, 1}) != -1 || Compare(Three{0, 0, 1 << 63}, Three{1}) != 1 {
		t.Error("the highest limb goes ahead of those below, and there is no sign")
	}
}

func TestRest(t *testing.T) { // P1.1
	for _, a := range threes() {
		for _, m := range words() {
			want := uint64(0)
			if m != 0 {
				want = new(big.Int).Mod(bigOf(a), bigOf(Three{m})).Uint64()
			}
			if got := Rest(a, m); got != want {
				t.Fatalf("Rest(%x, %d) = %d, not %d", a, m, got, want)
			}
		}
	}
	if Rest(top, 0) != 0 || Rest(Three{}, 0) != 0 || Rest(top, 1) != 0 || Rest(top, full) != 0 {
		t.Error("by 0, by 1, and by a divisor nothing is left")
	}
}

func TestLeftAndRight(t *testing.T) { // P1.1
	for _, a := range threes() {
		for _, n := range moves() {
			by := uint(min(max(n, 0), 192))
			want, _ := fold(new(big.Int).Lsh(bigOf(a), by))
			if got := Left(a, n); got != want {
				t.Fatalf("Left(%x, %d) = %x", a, n, got)
			}
			want, _ = fold(new(big.Int).Rsh(bigOf(a), by))
			if got := Right(a, n); got != want {
				t.Fatalf("Right(%x, %d) = %x", a, n, got)
			}
		}
	}
}

func TestLeftAndRightAtTheEdges(t *testing.T) { // P1.1
	a := Three{1<<63 | 5, 1<<63 | 6, 1<<63 | 7}
	for _, c := range []struct {
		n           int
		left, right Three
	}{
		{math.MinInt, a, a},
		{-64, a, a},
		{0, a, a},
		{1, Three{10, 13, 15}, Three{1<<62 + 2, 1<<63 | 1<<62 | 3, 1<<62 + 3}},
		{64, Three{0, a[0], a[1]}, Three{a[1], a[2], 0}},
		{65, Three{0, 10, 13}, Three{1<<63 | 1<<62 | 3, 1<<62 + 3, 0}},
		{128, Three{0, 0, a[0]}, Three{a[2], 0, 0}},
		{191, Three{0, 0, 1 << 63}, Three{1, 0, 0}},
		{192, Three{}, Three{}},
		{193, Three{}, Three{}},
		{256, Three{}, Three{}},
		{math.MaxInt, Three{}, Three{}},
	} {
		if l, r := Left(a, c.n), Right(a, c.n); l != c.left || r != c.right {
			t.Errorf("by %d: %x, %x", c.n, l, r)
		}
	}
}

func TestOf(t *testing.T) { // P1.1
	for _, n := range []int{0, 1, -1, 2, -2, 1 << 32, -1 << 32, math.MaxInt - 1, math.MaxInt, math.MinInt, math.MinInt + 1} {
		a := Of(n)
		if signed(a).Cmp(big.NewInt(int64(n))) != 0 {
			t.Errorf("Of(%d) = %x", n, a)
		}
		if back, ok := Int(a); back != n || !ok {
			t.Errorf("Int(Of(%d)) = %d, %v", n, back, ok)
		}
	}
}

func TestInt(t *testing.T) { // P1.1
	for _, a := range threes() {
		want, fits := 0, signed(a).IsInt64()
		if fits {
			want = int(signed(a).Int64())
		}
		if n, ok := Int(a); n != want || ok != fits {
			t.Errorf("Int(%x) = %d, %v", a, n, ok)
		}
	}
	for _, c := range []struct {
		a  Three
		n  int
		ok bool
	}{
		{Three{1<<63 - 1}, math.MaxInt, true},
		{Three{1 << 63}, 0, false},
		{Three{1<<63 + 1}, 0, false},
		{Three{1 << 63, full, full}, math.MinInt, true},
		{Three{1<<63 + 1, full, full}, math.MinInt + 1, true},
		{Three{1<<63 - 1, full, full}, 0, false},
		{Three{full, full, 1<<63 - 1}, 0, false},
		{Three{0, 0, 1 << 63}, 0, false},
		{Three{1, 0, 1 << 63}, 0, false},
		{Three{0, 1, 0}, 0, false},
		{Three{5, 0, full}, 0, false},
		{Three{full, 0, full}, 0, false},
		{Three{full, full, 0}, 0, false},
		{Neg(Three{1, 0, 0}), -1, true},
	} {
		if n, ok := Int(c.a); n != c.n || ok != c.ok {
			t.Errorf("Int(%x) = %d, %v", c.a, n, ok)
		}
	}
}

func TestDecimal(t *testing.T) { // P1.1
	for _, a := range threes() {
		if got := Decimal(a); got != bigOf(a).String() {
			t.Errorf("Decimal(%x) = %s", a, got)
		}
	}
	// Every power of ten, and its neighbour below, has its noughts, and no more.
	power := big.NewInt(1)
	for power.Cmp(round()) < 0 {
		for _, n := range []*big.Int{power, new(big.Int).Sub(power, big.NewInt(1))} {
			if a, _ := fold(n); Decimal(a) != n.String() {
				t.Errorf("Decimal(%x) = %s", a, Decimal(a))
			}
		}
		power.Mul(power, big.NewInt(10))
	}
	for a, want := range map[Three]string{
		{}:        "0",
		{0, 1, 0}: "18446744073709551616",
		top:       "6277101735386680763835789423207666416102355444464034512895",
	} {
		if got := Decimal(a); got != want {
			t.Errorf("Decimal(%x) = %s", a, got)
		}
	}
}

func TestAddedAndTakenAway(t *testing.T) { // P1.2
	for _, a := range threes() {
		if s, went := Add(a, Neg(a)); s != (Three{}) || went != (a != Three{}) {
			t.Fatalf("%x and its opposite: %x, %v", a, s, went)
		}
		for _, b := range threes() {
			sum, over := Add(a, b)
			if back, under := Sub(sum, b); back != a || under != over {
				t.Fatalf("%x, with %x and without: %x, %v, %v", a, b, back, over, under)
			}
			difference, under := Sub(a, b)
			if back, over := Add(difference, b); back != a || under != over {
				t.Fatalf("%x, without %x and with: %x, %v, %v", a, b, back, over, under)
			}
		}
	}
}

func TestMovedAndMovedBack(t *testing.T) { // P1.2
	for _, a := range threes() {
		for _, n := range moves() {
			lost := uint(min(max(n, 0), 192))
			kept := new(big.Int).Sub(new(big.Int).Lsh(big.NewInt(1), 192-lost), big.NewInt(1))
			want, _ := fold(new(big.Int).And(bigOf(a), kept))
			if got := Right(Left(a, n), n); got != want {
				t.Fatalf("%x, left and right by %d: %x", a, n, got)
			}
			want, _ = fold(new(big.Int).Lsh(new(big.Int).Rsh(bigOf(a), lost), lost))
			if got := Left(Right(a, n), n); got != want {
				t.Fatalf("%x, right and left by %d: %x", a, n, got)
			}
		}
	}
}

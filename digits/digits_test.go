package digits

import (
	"math"
	"math/big"
	"slices"
	"testing"

	"epicycle/api"
)

// allTurned: of each number, counted like the wheels of a clock of which the
// first goes fastest, what it is if each digit weighs as much as the radices
// behind it: no quotient, and no rest, is taken.
func allTurned(row []int) []int {
	wheels := make([]int, len(row))
	var all []int
	for {
		number := 0
		for k, digit := range wheels {
			number += digit * product(row[k+1:])
		}
		all = append(all, number)
		k := 0
		for k < len(row) && wheels[k] == row[k]-1 {
			wheels[k] = 0
			k++
		}
		if k == len(row) {
			return all
		}
		wheels[k]++
	}
}

// product: that of radices that fit.
func product(row []int) int {
	p := 1
	for _, radix := range row {
		p *= radix
	}
	return p
}

// sizeOf: what the chapter says that Size answers, of a product however great.
func sizeOf(row []int) (int, api.Errno) {
	if len(row) > 12 {
		return 0, api.ErrArg
	}
	size := big.NewInt(1)
	for _, radix := range row {
		if radix < 2 {
			return 0, api.ErrArg
		}
		size.Mul(size, big.NewInt(int64(radix)))
	}
	if size.Cmp(big.NewInt(4096)) > 0 {
		return 0, api.ErrLong
	}
	return int(size.Int64()), api.OK
}

// radices: rows that are radices, of all numbers of them, some just at the limits.
func radices() [][]int {
	return [][]int{
		nil, {}, {2}, {3}, {10}, {4095}, {4096},
		{2, 3}, {3, 2}, {2, 2}, {7, 5}, {64, 64}, {2, 2048}, {2048, 2}, {63, 65}, {3, 1365},
		{2, 3, 4}, {4, 3, 2}, {2, 2, 2}, {5, 2, 7}, {16, 16, 16}, {13, 15, 21}, {2, 1024, 2},
		{2, 3, 5, 7}, {7, 5, 3, 2}, {8, 8, 8, 8}, {3, 2, 3, 2}, {2, 3, 2, 3, 2, 3, 2},
		{3, 3, 3, 3, 3, 3, 3}, {2, 2, 2, 2, 2, 2, 2, 2, 2, 2, 2}, {2, 2, 2, 2, 2, 2, 2, 2, 2, 2, 3},
		{3, 2, 2, 2, 2, 2, 2, 2, 2, 2, 2}, {2, 2, 2, 2, 2, 2, 2, 2, 2, 2, 4}, {2, 2, 2, 2, 2, 2, 2, 2, 2, 2, 2, 2},
	}
}

// refusal: a row that is none of radices, and what Size says of it.
type refusal struct {
	row []int
	err api.Errno
}

// refused: rows that are no radices.
func refused() []refusal {
	all := []refusal{
		{[]int{1}, api.ErrArg}, {[]int{0}, api.ErrArg}, {[]int{-1}, api.ErrArg}, {[]int{-2}, api.ErrArg}, {[]int{math.MinInt}, api.ErrArg},
		{[]int{1, 2}, api.ErrArg}, {[]int{2, 1}, api.ErrArg}, {[]int{2, 0, 3}, api.ErrArg}, {[]int{2, 3, -4}, api.ErrArg},
		{[]int{-2, -3}, api.ErrArg}, {[]int{-64, -64}, api.ErrArg}, {[]int{math.MinInt, math.MinInt}, api.ErrArg},
		{[]int{1, 1, 1, 1, 1, 1, 1, 1, 1, 1, 1, 1}, api.ErrArg}, {[]int{2, 2, 2, 2, 2, 2, 2, 2, 2, 2, 2, 1}, api.ErrArg},
		// One below 2 comes ahead of a product that is too great.
		{[]int{4097, 1}, api.ErrArg}, {[]int{1, 4097}, api.ErrArg}, {[]int{64, 65, 0}, api.ErrArg}, {[]int{64, 65, -1}, api.ErrArg},
		{[]int{1 << 32, 1 << 32, 1}, api.ErrArg}, {[]int{math.MaxInt, math.MaxInt, math.MinInt}, api.ErrArg}, {[]int{4096, 4096, 0, 4096}, api.ErrArg},
		{[]int{4097}, api.ErrLong}, {[]int{8192}, api.ErrLong}, {[]int{math.MaxInt}, api.ErrLong},
		{[]int{64, 65}, api.ErrLong}, {[]int{65, 64}, api.ErrLong}, {[]int{17, 241}, api.ErrLong}, {[]int{4096, 2}, api.ErrLong}, {[]int{2, 4096}, api.ErrLong},
		{[]int{2, 2049}, api.ErrLong}, {[]int{3, 1366}, api.ErrLong}, {[]int{16, 16, 17}, api.ErrLong}, {[]int{8, 8, 8, 9}, api.ErrLong},
		{[]int{2, 2, 2, 2, 2, 2, 2, 2, 2, 2, 2, 3}, api.ErrLong}, {[]int{3, 2, 2, 2, 2, 2, 2, 2, 2, 2, 2, 2}, api.ErrLong},
		// Products that are 0, 1, small or below 0, if they go round.
		{[]int{1 << 32, 1 << 32}, api.ErrLong}, {[]int{1 << 32, 1 << 31}, api.ErrLong}, {[]int{1 << 31, 1 << 31, 4}, api.ErrLong},
		{[]int{1 << 16, 1 << 16, 1 << 16, 1 << 16}, api.ErrLong}, {[]int{4, 1<<62 + 1}, api.ErrLong}, {[]int{1<<62 + 1, 4}, api.ErrLong},
		{[]int{2, 1<<62 + 1, 2}, api.ErrLong}, {[]int{641, 6700417, 1<<32 - 1}, api.ErrLong}, {[]int{math.MaxInt, math.MaxInt}, api.ErrLong},
		{[]int{2, math.MaxInt}, api.ErrLong}, {[]int{math.MaxInt, 2}, api.ErrLong}, {[]int{1 << 40, 1 << 40}, api.ErrLong},
		{slices.Repeat([]int{math.MaxInt}, 12), api.ErrLong}, {slices.Repeat([]int{4096}, 12), api.ErrLong},
	}
	// More than 12 radices, whatever they are.
	for _, radix := range []int{2, 3, 1, 0, -1, 4096, 4097, math.MaxInt, math.MinInt} {
		for _, count := range []int{13, 14, 32, 64, 1000} {
			all = append(all, refusal{slices.Repeat([]int{radix}, count), api.ErrArg})
		}
	}
	return all
}

// walk: hands over all rows of radices there are, up to a product, and of
// each the room that is left: how great one more radix may be.
func walk(row []int, room int, see func(row []int, room int)) {
	see(row, room)
	for radix := 2; radix <= room; radix++ {
		walk(append(slices.Clone(row), radix), room/radix, see)
	}
}

// strange: numbers far from any size.
func strange() []int {
	return []int{-1, -2, -4096, math.MinInt, math.MinInt + 1, 4097, 8192, 1 << 32, 1 << 62, math.MaxInt}
}

// mingled: numbers that look like any, always the same.
func mingled(count int) []uint64 {
	x := uint64(88172645463325252)
	var all []uint64
	for range count {
		x ^= x << 13
		x ^= x >> 7
		x ^= x << 17
		all = append(all, x)
	}
	return all
}

// backwards: the radices in the opposite order.
func backwards(row []int) []int {
	other := slices.Clone(row)
	slices.Reverse(other)
	return other
}

func expectSize(t *testing.T, row []int, size int, err api.Errno) {
	t.Helper()
	if n, e := Size(row); n != size || e != err {
		t.Errorf("Size of %v: %d, %d, not %d, %d", row, n, e, size, err)
	}
}

func expectTurn(t *testing.T, row []int, i, about int, found bool) {
	t.Helper()
	if n, ok := Turn(row, i); n != about || ok != found {
		t.Errorf("Turn of %d by %v: %d, %v, not %d, %v", i, row, n, ok, about, found)
	}
}

func expectTable(t *testing.T, row, table []int) {
	t.Helper()
	if got := Table(row); !slices.Equal(got, table) {
		t.Errorf("Table of %v: %v, not %v", row, got, table)
	}
}

func expectOrder(t *testing.T, list []uint64, row []int, ordered []uint64, err api.Errno) {
	t.Helper()
	if got, e := Order(list, row); e != err || !slices.Equal(got, ordered) {
		t.Errorf("Order of %v by %v: %v, %d, not %v, %d", list, row, got, e, ordered, err)
	}
}

// expectSwap: that the list itself becomes what is wanted; spare room, and the table, stay.
func expectSwap(t *testing.T, list []uint64, table []int, want []uint64, swapped bool) {
	t.Helper()
	room := append(slices.Clone(list), 77, 88, 99)
	tableRoom := append(slices.Clone(table), -7, -8)
	ok := Swap(room[:len(list)], tableRoom[:len(table)])
	if ok != swapped || !slices.Equal(room, append(slices.Clone(want), 77, 88, 99)) {
		t.Errorf("Swap of %v by %v: %v, %v, not %v, %v", list, table, room[:len(list)], ok, want, swapped)
	}
	if !slices.Equal(tableRoom, append(slices.Clone(table), -7, -8)) {
		t.Errorf("Swap of %v by %v: the table became %v", list, table, tableRoom)
	}
}

func expectBits(t *testing.T, i, k, want int) {
	t.Helper()
	if got := Bits(i, k); got != want {
		t.Errorf("Bits of %d, %d: %d, not %d", i, k, got, want)
	}
}

// P9.1: the chapter's examples, and some that were reckoned by hand.
func TestExamples(t *testing.T) {
	expectTurn(t, []int{2, 3}, 1, 3, true)
	expectTurn(t, []int{2, 3}, 2, 1, true)
	expectTurn(t, []int{2, 3}, 5, 5, true)
	expectBits(t, 1, 3, 4)
	expectTable(t, []int{2, 3}, []int{0, 3, 1, 4, 2, 5})
	expectTable(t, []int{3, 2}, []int{0, 2, 4, 1, 3, 5})
	expectTable(t, []int{2, 2, 2}, []int{0, 4, 2, 6, 1, 5, 3, 7})
	// 17 has the digits 1, 2, 2 by 2, 3, 4: 2 + 4 (2 + 3 1).
	expectTurn(t, []int{2, 3, 4}, 17, 22, true)
	expectOrder(t, []uint64{10, 11, 12, 13, 14, 15}, []int{2, 3}, []uint64{10, 12, 14, 11, 13, 15}, api.OK)
	expectOrder(t, []uint64{10, 11, 12, 13, 14, 15}, []int{3, 2}, []uint64{10, 13, 11, 14, 12, 15}, api.OK)
	expectSwap(t, []uint64{10, 11, 12, 13}, []int{1, 2, 3, 0}, []uint64{11, 12, 13, 10}, true)
	expectBits(t, 6, 4, 6)
	expectBits(t, 13, 5, 22)
}

// P9.1: Size of rows that are radices, the limits included, and of those that are none.
func TestSize(t *testing.T) {
	for _, row := range radices() {
		expectSize(t, row, product(row), api.OK)
	}
	for _, c := range refused() {
		expectSize(t, c.row, 0, c.err)
		if size, err := sizeOf(c.row); size != 0 || err != c.err {
			t.Errorf("%v: the test says %d, the chapter %d", c.row, c.err, err)
		}
	}
	expectSize(t, []int{4096}, 4096, api.OK)
	expectSize(t, []int{4097}, 0, api.ErrLong)
	expectSize(t, slices.Repeat([]int{2}, 12), 4096, api.OK)
	expectSize(t, slices.Repeat([]int{2}, 13), 0, api.ErrArg)
}

// P9.1: Size of all radices there are, and of each row with one more that is just too great, or below 2.
func TestSizeOfAllRadices(t *testing.T) {
	rows := 0
	walk(nil, api.MaxPad, func(row []int, room int) {
		rows++
		expectSize(t, row, product(row), api.OK)
		if len(row) < 12 {
			expectSize(t, append(slices.Clone(row), room+1), 0, api.ErrLong)
			expectSize(t, append([]int{room + 1}, row...), 0, api.ErrLong)
			expectSize(t, append([]int{-rows}, row...), 0, api.ErrArg)
		}
	})
	if rows < 500000 {
		t.Errorf("only %d rows", rows)
	}
}

// P9.1: Size of all rows of up to four small numbers, radices and others.
func TestSizeOfSmallRows(t *testing.T) {
	numbers := []int{-3, -1, 0, 1, 2, 3, 8, 9, 64, 4096, 4097, 1 << 32}
	var below func(row []int)
	below = func(row []int) {
		size, err := sizeOf(row)
		expectSize(t, row, size, err)
		if len(row) == 4 {
			return
		}
		for _, number := range numbers {
			below(append(slices.Clone(row), number))
		}
	}
	below(nil)
}

// P9.1: of no radices the size is 1, and 0 is the only number.
func TestNoRadices(t *testing.T) {
	for _, row := range [][]int{nil, {}} {
		expectSize(t, row, 1, api.OK)
		expectTurn(t, row, 0, 0, true)
		expectTurn(t, row, 1, 0, false)
		expectTurn(t, row, -1, 0, false)
		expectTable(t, row, []int{0})
		expectOrder(t, []uint64{math.MaxUint64}, row, []uint64{math.MaxUint64}, api.OK)
		expectOrder(t, nil, row, nil, api.ErrArg)
		expectOrder(t, []uint64{}, row, nil, api.ErrArg)
		expectOrder(t, []uint64{5, 6}, row, nil, api.ErrArg)
	}
}

// P9.1: Turn of all numbers below the size, and of others.
func TestTurn(t *testing.T) {
	for _, row := range radices() {
		all := allTurned(row)
		for i, about := range all {
			expectTurn(t, row, i, about, true)
		}
		size := len(all)
		for _, i := range append(strange(), -size, size, size+1, 2*size) {
			expectTurn(t, row, i, 0, false)
		}
	}
}

// P9.1: Turn and Table of all radices there are up to a size.
func TestTurnOfAllRadices(t *testing.T) {
	walk(nil, 160, func(row []int, _ int) {
		all := allTurned(row)
		expectTable(t, row, all)
		for i, about := range all {
			expectTurn(t, row, i, about, true)
		}
		expectTurn(t, row, len(all), 0, false)
		expectTurn(t, row, -1, 0, false)
	})
}

// P9.1: Table has all numbers, from 0 on, turned about.
func TestTable(t *testing.T) {
	for _, row := range radices() {
		expectTable(t, row, allTurned(row))
	}
}

// P9.1: where Size isn't OK there is no number turned about, no table, and no list.
func TestRefusedRadices(t *testing.T) {
	for _, c := range refused() {
		for _, i := range append(strange(), 0, 1, 2, 5, 4095, 4096) {
			expectTurn(t, c.row, i, 0, false)
		}
		expectTable(t, c.row, nil)
		for _, count := range []int{0, 1, 2, 6, 12, 13, 4096, 4097} {
			expectOrder(t, make([]uint64, count), c.row, nil, c.err)
		}
	}
}

// P9.1: Order lays what stood at i at i turned about.
func TestOrder(t *testing.T) {
	for _, row := range radices() {
		all := allTurned(row)
		list := mingled(len(all))
		ordered := make([]uint64, len(all))
		for i, about := range all {
			ordered[about] = list[i]
		}
		expectOrder(t, list, row, ordered, api.OK)
	}
	expectOrder(t, []uint64{7, 7, 0, math.MaxUint64}, []int{2, 2}, []uint64{7, 0, 7, math.MaxUint64}, api.OK)
}

// P9.1: Order refuses lists that are shorter or longer than the size.
func TestOrderOfOtherLengths(t *testing.T) {
	for _, row := range radices() {
		size := product(row)
		for _, count := range []int{0, 1, size - 1, size + 1, 2 * size, size / 2, 4096, 4097} {
			if count != size {
				expectOrder(t, mingled(count), row, nil, api.ErrArg)
			}
		}
	}
	expectOrder(t, make([]uint64, 4095), []int{4096}, nil, api.ErrArg)
	expectOrder(t, make([]uint64, 4097), []int{4096}, nil, api.ErrArg)
}

// P9.1: Size's error comes ahead of that of the list's length.
func TestOrderAsksSizeFirst(t *testing.T) {
	expectOrder(t, nil, []int{4097}, nil, api.ErrLong)
	expectOrder(t, make([]uint64, 4097), []int{4097}, nil, api.ErrLong)
	expectOrder(t, make([]uint64, 4160), []int{64, 65}, nil, api.ErrLong)
	expectOrder(t, make([]uint64, 1), []int{1}, nil, api.ErrArg)
	expectOrder(t, make([]uint64, 8192), slices.Repeat([]int{2}, 13), nil, api.ErrArg)
	expectOrder(t, nil, []int{1 << 32, 1 << 32}, nil, api.ErrLong)
}

// swapped: the list that stands there then, and whether the table fits it, as the chapter says it.
func swapped(list []uint64, table []int) ([]uint64, bool) {
	sorted := slices.Clone(table)
	slices.Sort(sorted)
	if len(sorted) != len(list) {
		return list, false
	}
	for i, number := range sorted {
		if number != i {
			return list, false
		}
	}
	var want []uint64
	for _, place := range table {
		want = append(want, list[place])
	}
	return want, true
}

// P9.1: Swap by all tables of up to five numbers from -1 to 5, of lists of up to five.
func TestSwapByAllSmallTables(t *testing.T) {
	list := []uint64{50, 40, 30, 20, 10}
	fitting := 0
	var below func(table []int)
	below = func(table []int) {
		for count := range len(list) + 1 {
			want, ok := swapped(list[:count], table)
			expectSwap(t, list[:count], table, want, ok)
			if ok {
				fitting++
			}
		}
		if len(table) == len(list) {
			return
		}
		for number := -1; number <= len(list); number++ {
			below(append(slices.Clone(table), number))
		}
	}
	below(nil)
	if fitting != 1+1+2+6+24+120 {
		t.Errorf("%d tables fit", fitting)
	}
}

// longTables: tables that have each of so many numbers once: in one cycle, in many, of all lengths, and in none.
func longTables(count int) [][]int {
	var same, round, other []int
	for i := range count {
		same = append(same, i)
		round = append(round, (i+1)%count)
		other = append(other, (i+count-1)%count)
	}
	about := backwards(same)
	tables := [][]int{same, round, other, about}
	mix := slices.Clone(same)
	for i, number := range mingled(count) {
		k := int(number % uint64(i+1))
		mix[i], mix[k] = mix[k], mix[i]
	}
	return append(tables, mix, backwards(mix))
}

// P9.1: Swap by long tables, and by such as have one number twice, or one that is none of them.
func TestSwapByLongTables(t *testing.T) {
	for _, count := range []int{1, 2, 6, 63, 64, 65, 1000, 4096, 5000} {
		list := mingled(count)
		for _, table := range longTables(count) {
			want, ok := swapped(list, table)
			if !ok {
				t.Fatalf("no table: %v", table)
			}
			expectSwap(t, list, table, want, true)
			expectSwap(t, list[:count-1], table, list[:count-1], false)
			expectSwap(t, append(slices.Clone(list), 5), table, append(slices.Clone(list), 5), false)
			for _, place := range []int{0, count / 2, count - 1} {
				for _, wrong := range []int{-1, count, count + 1, -count, math.MaxInt, math.MinInt, 1 << 32, table[(place+1)%count]} {
					if wrong == table[place] {
						continue
					}
					no := slices.Clone(table)
					no[place] = wrong
					expectSwap(t, list, no, list, false)
				}
			}
		}
	}
}

// P9.1: Swap of nothing by nothing is done; of something by nothing, and of nothing by something, it isn't.
func TestSwapOfNothing(t *testing.T) {
	expectSwap(t, nil, nil, nil, true)
	expectSwap(t, []uint64{}, []int{}, nil, true)
	if !Swap(nil, nil) || !Swap(nil, []int{}) || !Swap([]uint64{}, nil) {
		t.Error("nothing by nothing isn't done")
	}
	expectSwap(t, nil, []int{0}, nil, false)
	expectSwap(t, []uint64{9}, nil, []uint64{9}, false)
	expectSwap(t, []uint64{9}, []int{0}, []uint64{9}, true)
	expectSwap(t, []uint64{9}, []int{1}, []uint64{9}, false)
	expectSwap(t, []uint64{9}, []int{-1}, []uint64{9}, false)
	expectSwap(t, []uint64{9, 8}, []int{0, 0}, []uint64{9, 8}, false)
	expectSwap(t, []uint64{9, 8}, []int{1, 1}, []uint64{9, 8}, false)
}

// P9.1: Swap changes the list itself: it is seen by all that share its memory.
func TestSwapIsInPlace(t *testing.T) {
	whole := []uint64{1, 2, 3, 4, 5, 6}
	if !Swap(whole[1:4], []int{2, 0, 1}) || !slices.Equal(whole, []uint64{1, 4, 2, 3, 5, 6}) {
		t.Errorf("%v", whole)
	}
}

// bitsOf: the k lowest bits of i one by one, as a number below 0 has them in
// 64 bits, the lowest ahead.
func bitsOf(i, k int) int {
	rest := new(big.Int).Mod(big.NewInt(int64(i)), new(big.Int).Lsh(big.NewInt(1), 64))
	about := 0
	for n := range k {
		about = 2*about + int(rest.Bit(n))
	}
	return about
}

// numbers: small ones of both signs, some at the edges of 64 bits, and mingled ones.
func numbers() []int {
	all := append(strange(), math.MaxInt-1, math.MaxInt/2, math.MinInt/2, 1<<61, 1<<61-1, 1<<62-1, -1<<62, 0x5555555555555555, -0x5555555555555556)
	for i := -70; i <= 300; i++ {
		all = append(all, i)
	}
	for _, number := range mingled(100) {
		all = append(all, int(number))
	}
	for k := range 64 {
		all = append(all, int(uint64(1)<<k))
	}
	return all
}

// P9.1: Bits of so many bits as are turned about, of numbers of both signs.
func TestBits(t *testing.T) {
	for _, i := range numbers() {
		for k := 1; k <= 62; k++ {
			expectBits(t, i, k, bitsOf(i, k))
		}
	}
	expectBits(t, -1, 62, 1<<62-1)
	expectBits(t, -1, 1, 1)
	expectBits(t, -2, 4, 7)
	expectBits(t, math.MinInt, 62, 0)
	expectBits(t, 1, 62, 1<<61)
	expectBits(t, 1<<61, 62, 1)
	expectBits(t, 1<<62, 62, 0)
}

// P9.1: Bits of fewer bits than 1, and of more than 62, is 0.
func TestBitsOfNoBits(t *testing.T) {
	for _, k := range []int{0, -1, -2, -62, -63, -64, -65, -1 << 32, math.MinInt, math.MinInt + 1, 63, 64, 65, 66, 127, 128, 129, 1 << 32, 1<<32 + 3, math.MaxInt} {
		for _, i := range numbers() {
			expectBits(t, i, k, 0)
		}
	}
}

// P9.1: Bits are the digits by radices of 2.
func TestBitsAreDigits(t *testing.T) {
	for k := 1; k <= 12; k++ {
		for i, about := range Table(slices.Repeat([]int{2}, k)) {
			expectBits(t, i, k, about)
			expectBits(t, i+5<<k, k, about)
			expectBits(t, i-3<<k, k, about)
		}
	}
}

// P9.1: no call but Swap changes what it is given, nor the room behind it.
func TestArgumentsStayAsTheyWere(t *testing.T) {
	rows := radices()
	for _, c := range refused() {
		rows = append(rows, c.row)
	}
	for _, row := range rows {
		room := append(slices.Clone(row), 3, 88, 99)
		handed := room[:len(row)]
		size, _ := Size(handed)
		list := append(mingled(size), 77, 88)
		Turn(handed, size/2)
		Table(handed)
		Order(list[:size], handed)
		if !slices.Equal(room, append(slices.Clone(row), 3, 88, 99)) {
			t.Errorf("%v became %v", row, room)
		}
		if !slices.Equal(list, append(mingled(size), 77, 88)) {
			t.Errorf("the list became %v by %v", list, row)
		}
	}
}

// P9.1: tables and ordered lists are new memory, those by radices that leave all in place too.
func TestAnswersAreNewMemory(t *testing.T) {
	for _, row := range [][]int{nil, {6}, {2, 3}, {2, 2, 2}} {
		size := product(row)
		table, again := Table(row), Table(row)
		list := append(mingled(size), 77)
		ordered, _ := Order(list[:size], row)
		twice, _ := Order(list[:size], row)
		for i := range size {
			table[i], ordered[i] = -1, 5
		}
		_ = append(ordered, 6)
		if !slices.Equal(again, allTurned(row)) {
			t.Errorf("a table of %v shares memory: %v", row, again)
		}
		if !slices.Equal(list, append(mingled(size), 77)) {
			t.Errorf("what Order answered by %v shares memory with the list: %v", row, list)
		}
		expectOrder(t, list[:size], row, twice, api.OK)
	}
}

// P9.2: a number turned about by the radices, and then by them in the opposite order, is as it was.
func TestNumbersThereAndBack(t *testing.T) {
	check := func(row []int, i int) {
		other := backwards(row)
		about, ok := Turn(row, i)
		back, found := Turn(other, about)
		if !ok || !found || back != i {
			t.Errorf("%d by %v: %d, %v, and back %d, %v", i, row, about, ok, back, found)
		}
	}
	for _, row := range radices() {
		for i := range product(row) {
			check(row, i)
		}
	}
	walk(nil, 160, func(row []int, _ int) {
		for i := range product(row) {
			check(row, i)
		}
	})
}

// P9.2: of all radices there are, the first and the last numbers, and some between, are as they were.
func TestSomeNumbersThereAndBackByAllRadices(t *testing.T) {
	some := mingled(1 << 8)
	walk(nil, api.MaxPad, func(row []int, room int) {
		other := backwards(row)
		size := product(row)
		for _, i := range []int{0, 1 % size, size / 2, size - 1, int(some[size%256] % uint64(size))} {
			about, ok := Turn(row, i)
			expectTurn(t, other, about, i, ok)
			if !ok {
				t.Errorf("%d isn't turned by %v", i, row)
			}
		}
	})
}

// P9.2: each number is turned about to one of its own, below the size.
func TestTablesHaveEachNumberOnce(t *testing.T) {
	for _, row := range radices() {
		table := Table(row)
		back := Table(backwards(row))
		met := make([]int, product(row))
		for i, about := range table {
			met[about]++
			if back[about] != i {
				t.Errorf("%d by %v: %d, and back %d", i, row, about, back[about])
			}
		}
		if slices.ContainsFunc(met, func(count int) bool { return count != 1 }) {
			t.Errorf("by %v: %v", row, met)
		}
	}
}

// P9.2: a list by Order, and then by the radices in the opposite order, is as it was.
func TestListsThereAndBack(t *testing.T) {
	check := func(row []int, list []uint64) {
		ordered, err := Order(list, row)
		back, other := Order(ordered, backwards(row))
		if err != api.OK || other != api.OK || !slices.Equal(back, list) {
			t.Errorf("%v by %v: %v, %d, and back %v, %d", list, row, ordered, err, back, other)
		}
	}
	for _, row := range radices() {
		check(row, mingled(product(row)))
		check(row, make([]uint64, product(row)))
	}
	walk(nil, 160, func(row []int, _ int) {
		check(row, mingled(product(row)))
	})
}

// P9.2: Swap by a table takes back what Order did by the radices, and does what Order does by the opposite ones.
func TestSwapAndOrder(t *testing.T) {
	for _, row := range radices() {
		list := mingled(product(row))
		ordered, _ := Order(list, row)
		expectSwap(t, ordered, Table(row), list, true)
		expectSwap(t, list, Table(backwards(row)), ordered, true)
	}
}

package shape

import (
	"math"
	"math/big"
	"slices"
	"testing"

	"epicycle/api"
)

// cell: an index, and the number that it must have.
type cell struct {
	number int
	index  Index
}

// cells: all cells of a shape, counted like the wheels of a clock: the last
// axis goes on, and at its end the one ahead of it.
func cells(shape []int) []cell {
	var index Index
	var all []cell
	for {
		all = append(all, cell{len(all), index})
		axis := len(shape) - 1
		for axis >= 0 && index[axis] == shape[axis]-1 {
			index[axis] = 0
			axis--
		}
		if axis < 0 {
			return all
		}
		index[axis]++
	}
}

// shapes: shapes of all numbers of axes, long, flat and just at the limits.
func shapes() [][]int {
	return [][]int{
		nil, {}, {1}, {2}, {5}, {4095}, {4096},
		{1, 1}, {1, 7}, {7, 1}, {2, 3}, {3, 2}, {64, 64}, {4096, 1}, {1, 4096}, {63, 65}, {3, 1365},
		{1, 1, 1}, {2, 3, 4}, {4, 3, 2}, {1, 5, 1}, {5, 1, 3}, {16, 16, 16}, {13, 15, 21},
		{1, 1, 1, 1}, {2, 3, 4, 5}, {5, 4, 3, 2}, {1, 2, 1, 3}, {3, 1, 2, 1}, {8, 8, 8, 8},
		{1, 1, 1, 4096}, {4096, 1, 1, 1}, {7, 9, 5, 13},
	}
}

// refused: rows that are no shapes, each with what Size says of it.
func refused() []struct {
	row []int
	err api.Errno
} {
	return []struct {
		row []int
		err api.Errno
	}{
		{[]int{0}, api.ErrShape},
		{[]int{-1}, api.ErrShape},
		{[]int{math.MinInt}, api.ErrShape},
		{[]int{0, 0, 0, 0}, api.ErrShape},
		{[]int{2, 0}, api.ErrShape},
		{[]int{0, 2}, api.ErrShape},
		{[]int{2, 3, -4}, api.ErrShape},
		{[]int{1, 1, 1, 0}, api.ErrShape},
		{[]int{-2, -3}, api.ErrShape},
		{[]int{-1, -1, -1, -1}, api.ErrShape},
		{[]int{4096, 0}, api.ErrShape},
		{[]int{4096, -1}, api.ErrShape},
		{[]int{4097}, api.ErrShape},
		{[]int{4097, 1}, api.ErrShape},
		{[]int{1, 4097}, api.ErrShape},
		{[]int{64, 65}, api.ErrShape},
		{[]int{65, 64}, api.ErrShape},
		{[]int{17, 241}, api.ErrShape},
		{[]int{4096, 2}, api.ErrShape},
		{[]int{2, 4096}, api.ErrShape},
		{[]int{3, 3, 3, 152}, api.ErrShape},
		{[]int{8, 8, 8, 9}, api.ErrShape},
		{[]int{4097, 0}, api.ErrShape},
		{[]int{0, 4097}, api.ErrShape},
		{[]int{math.MaxInt}, api.ErrShape},
		{[]int{math.MaxInt, 1}, api.ErrShape},
		{[]int{math.MaxInt, math.MaxInt}, api.ErrShape},
		{[]int{2, math.MaxInt}, api.ErrShape},
		{[]int{math.MinInt, math.MinInt}, api.ErrShape},
		// Products that are 0, 1, small or below 0, if they go round.
		{[]int{1 << 32, 1 << 32}, api.ErrShape},
		{[]int{1 << 31, 1 << 31, 4}, api.ErrShape},
		{[]int{1 << 16, 1 << 16, 1 << 16, 1 << 16}, api.ErrShape},
		{[]int{641, 6700417, 1<<32 - 1, 1}, api.ErrShape},
		{[]int{2, 1<<62 + 1, 2}, api.ErrShape},
		{[]int{4, 1<<62 + 1}, api.ErrShape},
		{[]int{math.MaxInt, math.MaxInt, 1, 1}, api.ErrShape},
		{[]int{1 << 32, 1 << 31}, api.ErrShape},
		// More than MaxDims axes, whatever they are.
		{[]int{1, 1, 1, 1, 1}, api.ErrArg},
		{[]int{0, 1, 1, 1, 1}, api.ErrArg},
		{[]int{1, 1, 1, 1, 0}, api.ErrArg},
		{[]int{4096, 4096, 1, 1, 1}, api.ErrArg},
		{[]int{-1, -1, -1, -1, -1}, api.ErrArg},
		{[]int{2, 2, 2, 2, 2, 2}, api.ErrArg},
		{make([]int, 1000), api.ErrArg},
	}
}

// mingled: so many numbers from 0 on, of all lengths up to 63 bits, always the same.
func mingled(count int) []int {
	x := uint64(88172645463325252)
	all := make([]int, count)
	for i := range all {
		x ^= x << 13
		x ^= x >> 7
		x ^= x << 17
		all[i] = int(x >> (1 + i*7%63))
	}
	return all
}

// sizeOf: what the chapter says of a row, with a product that can't go round.
func sizeOf(row []int) (int, api.Errno) {
	if len(row) > 4 {
		return 0, api.ErrArg
	}
	product := big.NewInt(1)
	for _, length := range row {
		if length < 1 {
			return 0, api.ErrShape
		}
		product.Mul(product, big.NewInt(int64(length)))
	}
	if product.Cmp(big.NewInt(4096)) > 0 {
		return 0, api.ErrShape
	}
	return int(product.Int64()), api.OK
}

// rows: shapes, what is none, and mingled rows of up to six numbers, most of them small.
func rows() [][]int {
	all := shapes()
	for _, c := range refused() {
		all = append(all, c.row)
	}
	numbers := mingled(9000)
	for i := 0; i+7 <= len(numbers); i += 7 {
		row := slices.Clone(numbers[i : i+numbers[i+6]%7])
		for k := range row {
			if i%3 > 0 {
				row[k] = row[k]%24 - i%2
			}
		}
		all = append(all, row)
	}
	return all
}

func expectSize(t *testing.T, row []int, size int, err api.Errno) {
	t.Helper()
	if n, e := Size(row); n != size || e != err {
		t.Errorf("Size of %v: %d, %d, not %d, %d", row, n, e, size, err)
	}
}

func expectStrides(t *testing.T, row, strides []int) {
	t.Helper()
	if s := Strides(row); !slices.Equal(s, strides) {
		t.Errorf("Strides of %v: %v, not %v", row, s, strides)
	}
}

func expectNumber(t *testing.T, row []int, i Index, number int, ok bool) {
	t.Helper()
	if n, is := Number(row, i); n != number || is != ok {
		t.Errorf("Number of %v in %v: %d, %v, not %d, %v", i, row, n, is, number, ok)
	}
}

func expectAt(t *testing.T, row []int, n int, index Index, ok bool) {
	t.Helper()
	if i, is := At(row, n); i != index || is != ok {
		t.Errorf("At of %d in %v: %v, %v, not %v, %v", n, row, i, is, index, ok)
	}
}

// expectAll: that a row is gone over in just these cells.
func expectAll(t *testing.T, row []int, want []cell) {
	t.Helper()
	var got []cell
	for n, i := range All(row) {
		got = append(got, cell{n, i})
	}
	if !slices.Equal(got, want) {
		t.Errorf("All of %v: %v, not %v", row, got, want)
	}
}

// P7.1: the chapter's examples, and some reckoned by hand.
func TestExamples(t *testing.T) {
	expectSize(t, []int{2, 3}, 6, api.OK)
	expectNumber(t, []int{2, 3}, Index{1, 2}, 5, true)
	expectStrides(t, []int{2, 3}, []int{3, 1})
	expectAt(t, []int{2, 3}, 5, Index{1, 2}, true)
	expectAt(t, []int{2, 3}, 3, Index{1, 0}, true)
	expectAll(t, []int{2, 3}, []cell{{0, Index{0, 0}}, {1, Index{0, 1}}, {2, Index{0, 2}}, {3, Index{1, 0}}, {4, Index{1, 1}}, {5, Index{1, 2}}})
	expectStrides(t, []int{2, 3, 4, 5}, []int{60, 20, 5, 1})
	expectNumber(t, []int{2, 3, 4, 5}, Index{1, 2, 3, 4}, 119, true)
	expectNumber(t, []int{2, 3, 4, 5}, Index{1, 0, 2, 1}, 71, true)
	expectAt(t, []int{2, 3, 4, 5}, 71, Index{1, 0, 2, 1}, true)
	expectStrides(t, []int{4096}, []int{1})
	expectStrides(t, []int{4096, 1}, []int{1, 1})
	expectStrides(t, []int{1, 4096}, []int{4096, 1})
}

// P7.1: an index has a number for each of MaxDims axes.
func TestIndexIsAnArrayOfAllAxes(t *testing.T) {
	if got := Index([4]int{1, 2, 3, 4}); len(got) != api.MaxDims {
		t.Errorf("an index of %d numbers", len(got))
	}
}

// P7.1: Size of rows that are shapes, their limits included, and of others.
func TestSize(t *testing.T) {
	for _, row := range shapes() {
		expectSize(t, row, len(cells(row)), api.OK)
	}
	for _, c := range refused() {
		expectSize(t, c.row, 0, c.err)
	}
	for _, row := range rows() {
		size, err := sizeOf(row)
		expectSize(t, row, size, err)
	}
}

// P7.1: Size about MaxCells, of all rows of two axes close to it.
func TestSizeAboutMaxCells(t *testing.T) {
	for first := 1; first <= 4098; first++ {
		for second := 4096/first - 1; second <= 4096/first+2; second++ {
			for _, row := range [][]int{{first, second}, {second, 1, first}, {1, first, 1, second}} {
				size, err := sizeOf(row)
				expectSize(t, row, size, err)
			}
		}
	}
}

// P7.1: a shape without axes has one cell, whose index is empty.
func TestNoAxes(t *testing.T) {
	for _, row := range [][]int{nil, {}} {
		expectSize(t, row, 1, api.OK)
		expectStrides(t, row, nil)
		expectNumber(t, row, Index{}, 0, true)
		expectAt(t, row, 0, Index{}, true)
		expectAt(t, row, 1, Index{}, false)
		expectAt(t, row, -1, Index{}, false)
		expectAll(t, row, []cell{{0, Index{}}})
		for axis := range api.MaxDims {
			var i Index
			i[axis] = 1
			expectNumber(t, row, i, 0, false)
		}
	}
}

// P7.1: a stride is by how much the number is greater if that of the axis is greater by 1.
func TestStrides(t *testing.T) {
	for _, row := range shapes() {
		strides := Strides(row)
		if len(strides) != len(row) {
			t.Errorf("Strides of %v: %v", row, strides)
			continue
		}
		numbers := map[Index]int{}
		for _, c := range cells(row) {
			numbers[c.index] = c.number
		}
		for i, number := range numbers {
			for axis, stride := range strides {
				next := i
				next[axis]++
				if n, ok := numbers[next]; ok && n-number != stride {
					t.Errorf("Strides of %v: %v, but from %v to %v it is %d", row, strides, i, next, n-number)
				}
			}
		}
	}
}

// P7.1: the stride of an axis of 1, which no index can go along, is the product of the lengths behind it.
func TestStridesOfFlatAxes(t *testing.T) {
	for _, row := range shapes() {
		var want []int
		for axis := range row {
			product := 1
			for _, length := range row[axis+1:] {
				product *= length
			}
			want = append(want, product)
		}
		expectStrides(t, row, want)
	}
}

// P7.1: of what is no shape there are no strides, numbers and indexes.
func TestNoShape(t *testing.T) {
	for _, c := range refused() {
		if s := Strides(c.row); len(s) != 0 {
			t.Errorf("Strides of %v: %v", c.row, s)
		}
		for _, i := range []Index{{}, {1}, {0, 1}, {-1}, {0, 0, 0, 1}} {
			expectNumber(t, c.row, i, 0, false)
		}
		for _, n := range []int{0, 1, 5, 4095, -1, math.MaxInt, math.MinInt} {
			expectAt(t, c.row, n, Index{}, false)
		}
		expectAll(t, c.row, nil)
	}
}

// P7.1: Number of all indexes, and of those with a number below 0, or not below the axis' length.
func TestNumber(t *testing.T) {
	for _, row := range shapes() {
		for _, c := range cells(row) {
			expectNumber(t, row, c.index, c.number, true)
			for axis, length := range row {
				for _, wrong := range []int{-1, -length, length, length + 1, 4096, math.MaxInt, math.MinInt} {
					i := c.index
					i[axis] = wrong
					expectNumber(t, row, i, 0, false)
				}
			}
		}
	}
}

// P7.1: wrong numbers of two axes, which together would come to a number that there is.
func TestNumberOfWrongIndexesThatSumUp(t *testing.T) {
	for _, i := range []Index{{0, 3}, {0, 4}, {0, 5}, {1, -1}, {1, -3}, {2, -1}, {2, -6}, {-1, 3}, {-1, 8}, {2, 0}} {
		expectNumber(t, []int{2, 3}, i, 0, false)
	}
	expectNumber(t, []int{4, 4}, Index{1 << 62, 1}, 0, false)
	expectNumber(t, []int{4, 4}, Index{-1 << 62, 1}, 0, false)
}

// P7.1: behind the axes an index has 0.
func TestNumberBehindTheAxes(t *testing.T) {
	for _, row := range shapes() {
		all := cells(row)
		for _, c := range []cell{all[0], all[len(all)/2], all[len(all)-1]} {
			for axis := len(row); axis < api.MaxDims; axis++ {
				for _, wrong := range []int{1, -1, 2, 4096, math.MaxInt, math.MinInt} {
					i := c.index
					i[axis] = wrong
					expectNumber(t, row, i, 0, false)
				}
			}
		}
	}
}

// P7.1: At of all numbers below the size, of those below 0, and of others.
func TestAt(t *testing.T) {
	for _, row := range shapes() {
		all := cells(row)
		for _, c := range all {
			expectAt(t, row, c.number, c.index, true)
		}
		size := len(all)
		wrong := []int{-1, -2, -size, math.MinInt, size, size + 1, 2 * size, 4097, 1 << 32, math.MaxInt}
		for _, n := range append(wrong, mingled(100)...) {
			if n < 0 || n >= size {
				expectAt(t, row, n, Index{}, false)
			}
		}
	}
}

// P7.1: At, Number, Strides and All hold to Size of mingled rows too.
func TestMingledRows(t *testing.T) {
	for _, row := range rows() {
		if _, err := sizeOf(row); err == api.OK {
			all := cells(row)
			last := all[len(all)-1]
			expectAll(t, row, all)
			expectAt(t, row, last.number, last.index, true)
			expectAt(t, row, len(all), Index{}, false)
			expectNumber(t, row, last.index, last.number, true)
			continue
		}
		expectAll(t, row, nil)
		expectAt(t, row, 0, Index{}, false)
		expectNumber(t, row, Index{}, 0, false)
		expectStrides(t, row, nil)
	}
}

// P7.1: All goes over all numbers, rising, each with its index.
func TestAll(t *testing.T) {
	for _, row := range shapes() {
		expectAll(t, row, cells(row))
	}
}

// P7.1: All may be left at any time, and gone over anew from its beginning, within itself too.
func TestAllLeft(t *testing.T) {
	row := []int{2, 3, 4}
	want := cells(row)
	all := All(row)
	for count := 1; count <= len(want); count++ {
		var got []cell
		for n, i := range all {
			got = append(got, cell{n, i})
			if len(got) == count {
				break
			}
		}
		if !slices.Equal(got, want[:count]) {
			t.Errorf("left behind %d: %v", count, got)
		}
	}
	met := 0
	for n := range all {
		for k, i := range all {
			if (cell{k, i}) != want[met%24] || n != met/24 {
				t.Fatalf("within itself: %d, %d: %v", n, k, i)
			}
			met++
		}
	}
	if met != 24*24 {
		t.Errorf("within itself: %d", met)
	}
}

// P7.1: an outer loop that is left from within ends both.
func TestAllLeftFromWithin(t *testing.T) {
	met := 0
outer:
	for n := range All([]int{3}) {
		for k := range All([]int{2, 2}) {
			met++
			if n == 1 && k == 2 {
				break outer
			}
		}
	}
	if met != 7 {
		t.Errorf("met %d", met)
	}
}

// P7.1: the shape that All was handed isn't kept: what is written into it behind the call isn't seen.
func TestAllKeepsNoShape(t *testing.T) {
	row := []int{2, 3}
	all := All(row)
	row[0], row[1] = 0, 5
	var got []cell
	for n, i := range all {
		got = append(got, cell{n, i})
		row[1] = n
	}
	if want := cells([]int{2, 3}); !slices.Equal(got, want) {
		t.Errorf("%v, not %v", got, want)
	}
	none := []int{0, 3}
	all = All(none)
	none[0] = 2
	for n, i := range all {
		t.Errorf("of no shape: %d, %v", n, i)
	}
}

// P7.1: no call changes the shape, nor the room behind it, and strides are new memory.
func TestShapesStayAsTheyWere(t *testing.T) {
	for _, row := range rows() {
		room := append(slices.Clone(row), 77, 88, 99)
		handed := room[:len(row)]
		Size(handed)
		strides := Strides(handed)
		Number(handed, Index{})
		At(handed, 0)
		for range All(handed) {
		}
		strides = append(strides, 1)
		for axis := range strides {
			strides[axis] = -7
		}
		if !slices.Equal(room, append(slices.Clone(row), 77, 88, 99)) {
			t.Errorf("%v became %v", row, room)
		}
	}
	row := []int{2, 3, 4}
	first := Strides(row)
	first[0], first[1], first[2] = 9, 9, 9
	expectStrides(t, row, []int{12, 4, 1})
}

// P7.2: from each index to its number and back, each number just once.
func TestFromIndexesToNumbers(t *testing.T) {
	for _, row := range shapes() {
		size, _ := Size(row)
		owners := map[int]Index{}
		for _, c := range cells(row) {
			n, ok := Number(row, c.index)
			if !ok || n < 0 || n >= size {
				t.Errorf("%v in %v: %d, %v", c.index, row, n, ok)
			}
			if other, met := owners[n]; met {
				t.Errorf("%v and %v in %v: both %d", other, c.index, row, n)
			}
			owners[n] = c.index
			expectAt(t, row, n, c.index, true)
		}
		if len(owners) != size {
			t.Errorf("%v: %d numbers of %d cells", row, len(owners), size)
		}
	}
}

// P7.2: from each number below the size to its index and back, each index just once.
func TestFromNumbersToIndexes(t *testing.T) {
	for _, row := range shapes() {
		size, _ := Size(row)
		owners := map[Index]int{}
		for n := range size {
			i, ok := At(row, n)
			if !ok {
				t.Errorf("%d in %v: none", n, row)
			}
			if other, met := owners[i]; met {
				t.Errorf("%d and %d in %v: both %v", other, n, row, i)
			}
			owners[i] = n
			expectNumber(t, row, i, n, true)
		}
		if size == 0 || len(owners) != size {
			t.Errorf("%v: %d indexes of %d numbers", row, len(owners), size)
		}
	}
}

// P7.2: of all arrays about a shape only its indexes have numbers, each of them one.
func TestNothingButIndexesHasNumbers(t *testing.T) {
	for _, row := range [][]int{nil, {2}, {2, 3}, {3, 1, 2}, {2, 1, 2, 3}} {
		size, _ := Size(row)
		met := map[int]int{}
		for code := range 6 * 6 * 6 * 6 {
			i := Index{code%6 - 1, code/6%6 - 1, code/36%6 - 1, code/216 - 1}
			if n, ok := Number(row, i); ok {
				met[n]++
				expectAt(t, row, n, i, true)
			}
		}
		for n, count := range met {
			if n < 0 || n >= size || count != 1 {
				t.Errorf("%v: %d met %d times", row, n, count)
			}
		}
		if len(met) != size {
			t.Errorf("%v: %d numbers of %d", row, len(met), size)
		}
	}
}

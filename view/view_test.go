package view

import (
	"math"
	"math/big"
	"slices"
	"testing"

	"epicycle/api"
)

// indexes: all indexes of a shape, counted like the wheels of a clock: the
// last axis goes on, and at its end the one ahead of it.
func indexes(row []int) [][]int {
	index := make([]int, len(row))
	var all [][]int
	for {
		all = append(all, slices.Clone(index))
		axis := len(row) - 1
		for axis >= 0 && index[axis] == row[axis]-1 {
			index[axis] = 0
			axis--
		}
		if axis < 0 {
			return all
		}
		index[axis]++
	}
}

// bigCell: an index's cell, as a whole number, however great.
func bigCell(v View, index []int) *big.Int {
	cell := big.NewInt(int64(v.Offset))
	for axis, place := range index {
		step := big.NewInt(int64(v.Stride[axis]))
		cell.Add(cell, step.Mul(step, big.NewInt(int64(place))))
	}
	return cell
}

// sizeError: what layer 7 says of a row.
func sizeError(row []int) api.Errno {
	if len(row) > 4 {
		return api.ErrArg
	}
	product := big.NewInt(1)
	for _, length := range row {
		if length < 1 {
			return api.ErrShape
		}
		product.Mul(product, big.NewInt(int64(length)))
	}
	if product.Cmp(big.NewInt(4096)) > 0 {
		return api.ErrShape
	}
	return api.OK
}

// wanted: what the chapter says that Check answers, and, if OK, the cells: all of them reckoned one by one.
func wanted(v View, cells int) ([]int, api.Errno) {
	if len(v.Stride) != len(v.Shape) || cells < 0 || cells > 4096 {
		return nil, api.ErrArg
	}
	if err := sizeError(v.Shape); err != api.OK {
		return nil, err
	}
	var list []int
	for _, index := range indexes(v.Shape) {
		cell := bigCell(v, index)
		if cell.Sign() < 0 || cell.Cmp(big.NewInt(int64(cells))) >= 0 {
			return nil, api.ErrRange
		}
		list = append(list, int(cell.Int64()))
	}
	sorted := slices.Sorted(slices.Values(list))
	if len(slices.Compact(sorted)) != len(list) {
		return nil, api.ErrSelf
	}
	return list, api.OK
}

// same: whether two views have the same offset, shape and strides.
func same(a, b View) bool {
	return a.Offset == b.Offset && slices.Equal(a.Shape, b.Shape) && slices.Equal(a.Stride, b.Stride)
}

// twin: the same view in memory of its own.
func twin(v View) View {
	return View{v.Offset, slices.Clone(v.Shape), slices.Clone(v.Stride)}
}

// shapes: shapes of all numbers of axes, some just at the limits.
func shapes() [][]int {
	return [][]int{
		nil, {}, {1}, {2}, {5}, {4096}, {1, 1}, {1, 3}, {3, 1}, {2, 3}, {64, 64}, {4096, 1}, {1, 4096},
		{2, 3, 4}, {3, 1, 2}, {1, 1, 5}, {16, 16, 16}, {2, 3, 1, 4}, {3, 2, 2, 2}, {1, 1, 1, 1}, {8, 8, 8, 8}, {1, 1, 1, 4096},
	}
}

// noShapes: rows that are no shapes.
func noShapes() [][]int {
	return [][]int{
		{0}, {-1}, {2, 0}, {0, 2}, {2, 3, -4}, {-2, -3}, {4097}, {4096, 2}, {64, 65}, {math.MinInt}, {math.MaxInt},
		{1 << 32, 1 << 32}, {1 << 16, 1 << 16, 1 << 16, 1 << 16}, {math.MaxInt, math.MaxInt}, {8, 8, 8, 9},
		{1, 1, 1, 1, 1}, {0, 1, 1, 1, 1}, {2, 2, 2, 2, 2, 2}, make([]int, 1000),
	}
}

// good: views that can be, of MaxCells.
func good() []View {
	return []View{
		{}, {Offset: 4095}, {Offset: 7, Shape: []int{}, Stride: []int{}},
		{0, []int{5}, []int{1}}, {4, []int{5}, []int{-1}}, {3, []int{4}, []int{7}}, {4095, []int{3}, []int{-2047}},
		{0, []int{4096}, []int{1}}, {4095, []int{4096}, []int{-1}}, {0, []int{2}, []int{4095}}, {4095, []int{2}, []int{-4095}},
		{9, []int{1}, []int{0}}, {9, []int{1}, []int{math.MinInt}}, {9, []int{1}, []int{math.MaxInt}}, {4095, []int{1}, []int{5000}},
		{0, []int{2, 3}, []int{3, 1}}, {1, []int{3, 2}, []int{1, 3}}, {5, []int{3, 2}, []int{-2, -1}}, {2, []int{2, 3}, []int{3, -1}},
		{10, []int{3, 4}, []int{3, 5}}, {10, []int{4, 3}, []int{-2, 7}}, {0, []int{64, 64}, []int{64, 1}}, {63, []int{64, 64}, []int{64, -1}},
		{0, []int{1, 3}, []int{math.MinInt, 2}}, {6, []int{3, 1}, []int{-3, math.MaxInt}}, {2, []int{1, 1}, []int{math.MaxInt, math.MinInt}},
		{0, []int{2, 3, 4}, []int{12, 4, 1}}, {100, []int{2, 3, 4}, []int{1, -8, 2}}, {50, []int{4, 1, 3}, []int{-1, math.MinInt + 1, 9}},
		{0, []int{2, 2, 2, 2}, []int{8, 4, 2, 1}}, {15, []int{2, 2, 2, 2}, []int{-1, -2, -4, -8}}, {2000, []int{2, 3, 2, 3}, []int{1, 2, -6, 12}},
		{3, []int{1, 2, 1, 5}, []int{math.MinInt, 11, math.MaxInt, 2}}, {0, []int{8, 8, 8, 8}, []int{512, 64, 8, 1}},
	}
}

// bad: what can't be a view of MaxCells, each with its error.
func bad() []struct {
	v   View
	err api.Errno
} {
	return []struct {
		v   View
		err api.Errno
	}{
		{View{Shape: []int{2}}, api.ErrArg},
		{View{Stride: []int{1}}, api.ErrArg},
		{View{0, []int{2, 3}, []int{1}}, api.ErrArg},
		{View{0, []int{2, 3}, []int{3, 1, 1}}, api.ErrArg},
		{View{0, []int{0}, nil}, api.ErrArg},
		{View{-1, []int{2, 3}, []int{1}}, api.ErrArg},
		{View{0, []int{1, 1, 1, 1, 1}, []int{1, 1, 1, 1, 1}}, api.ErrArg},
		{View{-1, []int{0, 1, 1, 1, 1}, []int{1, 1, 1, 1, 1}}, api.ErrArg},
		{View{0, []int{0}, []int{1}}, api.ErrShape},
		{View{-1, []int{2, -3}, []int{1, 1}}, api.ErrShape},
		{View{0, []int{64, 65}, []int{0, 0}}, api.ErrShape},
		{View{0, []int{1 << 32, 1 << 32}, []int{1, 1}}, api.ErrShape},
		{View{Offset: -1}, api.ErrRange},
		{View{Offset: 4096}, api.ErrRange},
		{View{Offset: math.MinInt}, api.ErrRange},
		{View{Offset: math.MaxInt}, api.ErrRange},
		{View{-1, []int{3}, []int{1}}, api.ErrRange},
		{View{-1, []int{3}, []int{0}}, api.ErrRange},
		{View{4094, []int{3}, []int{1}}, api.ErrRange},
		{View{1, []int{3}, []int{-1}}, api.ErrRange},
		{View{0, []int{2, 2}, []int{math.MaxInt, math.MinInt}}, api.ErrRange},
		{View{0, []int{3}, []int{0}}, api.ErrSelf},
		{View{0, []int{2, 2}, []int{1, 1}}, api.ErrSelf},
		{View{0, []int{3, 2}, []int{1, 2}}, api.ErrSelf},
		{View{8, []int{3, 2}, []int{-2, 4}}, api.ErrSelf},
		{View{0, []int{2, 2, 2}, []int{1, 2, 3}}, api.ErrSelf},
	}
}

// great: numbers that go beyond 64 bits if they are taken a few times, 0 and 1 among them if they go round.
func great() []int {
	return []int{
		0, 1, -1, 2, -2, 4095, 4096, -4095, -4096, 1 << 31, 1 << 32, -1 << 32, 1 << 61, -1 << 61, 1 << 62, -1 << 62, 1<<62 + 1, -1<<62 + 1,
		1<<63 - 1, 1<<63 - 2, -1 << 63, -1<<63 + 1, -1<<63 + 2, math.MaxInt / 3, math.MinInt / 3, 0x5555555555555556, 3074457345618258603,
	}
}

// mingled: numbers that look like any, always the same.
type mingled uint64

// below: the next one, below a bound.
func (m *mingled) below(bound int) int {
	x := uint64(*m)
	x ^= x << 13
	x ^= x >> 7
	x ^= x << 17
	*m = mingled(x)
	return int((x >> 11) % uint64(bound))
}

// mingledViews: many views, of which some can be.
func mingledViews(count int) []View {
	m := mingled(88172645463325252)
	var all []View
	for range count {
		v := View{Offset: m.below(40)}
		for range m.below(5) {
			v.Shape = append(v.Shape, 1+m.below(4))
			v.Stride = append(v.Stride, m.below(40)-20)
		}
		all = append(all, v)
	}
	return all
}

// goodViews: those of good, and mingled ones that can be.
func goodViews() []View {
	all := good()
	for _, v := range mingledViews(4000) {
		if _, err := wanted(v, 4096); err == api.OK {
			all = append(all, v)
		}
	}
	return all
}

// smallViews: those of goodViews that have few cells.
func smallViews() []View {
	return slices.DeleteFunc(goodViews(), func(v View) bool { return len(indexes(v.Shape)) > 100 })
}

func expectCheck(t *testing.T, v View, cells int, err api.Errno) {
	t.Helper()
	if e := v.Check(cells); e != err {
		t.Errorf("Check of %v, of %d cells: %d, not %d", v, cells, e, err)
	}
}

func expectCells(t *testing.T, v View, cells []int) {
	t.Helper()
	if got := v.Cells(); !slices.Equal(got, cells) {
		t.Errorf("Cells of %v: %v, not %v", v, got, cells)
	}
}

// expectView: what a call answered, and what it must have.
func expectView(t *testing.T, what string, got View, err api.Errno, want View, wantErr api.Errno) {
	t.Helper()
	if err != wantErr || !same(got, want) {
		t.Errorf("%s: %v, %d, not %v, %d", what, got, err, want, wantErr)
	}
}

// expectError: that there is only an error.
func expectError(t *testing.T, what string, got View, err, wantErr api.Errno) {
	t.Helper()
	if err != wantErr || got.Offset != 0 || got.Shape != nil || got.Stride != nil {
		t.Errorf("%s: %v, %d, not %d", what, got, err, wantErr)
	}
}

// must: a view that can be made.
func must(t *testing.T) func(View, api.Errno) View {
	return func(v View, err api.Errno) View {
		t.Helper()
		if err != api.OK {
			t.Fatalf("error %d", err)
		}
		return v
	}
}

// P8.1: the chapter's example, and some reckoned by hand.
func TestExamples(t *testing.T) {
	v, err := Dense([]int{2, 3})
	expectView(t, "Dense", v, err, View{0, []int{2, 3}, []int{3, 1}}, api.OK)
	expectCells(t, v, []int{0, 1, 2, 3, 4, 5})
	w, err := v.Permute(1, 0)
	expectView(t, "Permute", w, err, View{0, []int{3, 2}, []int{1, 3}}, api.OK)
	expectCells(t, w, []int{0, 3, 1, 4, 2, 5})
	w, err = v.Slice(1, 2, -2, 2)
	expectView(t, "Slice", w, err, View{2, []int{2, 2}, []int{3, -2}}, api.OK)
	expectCells(t, w, []int{2, 0, 5, 3})
	w, err = v.Slice(0, 1, 7, 1)
	expectView(t, "Slice of one", w, err, View{3, []int{1, 3}, []int{3, 1}}, api.OK)
	w, err = v.Reverse(0)
	expectView(t, "Reverse", w, err, View{3, []int{2, 3}, []int{-3, 1}}, api.OK)
	expectCells(t, w, []int{3, 4, 5, 0, 1, 2})
	w, err = v.Pick(1, 2)
	expectView(t, "Pick", w, err, View{2, []int{2}, []int{3}}, api.OK)
	expectCells(t, w, []int{2, 5})
	w, err = w.Pick(0, 1)
	expectView(t, "Pick of the last axis", w, err, View{Offset: 5}, api.OK)
	expectCells(t, w, []int{5})
}

// P8.1: Dense of shapes: all their cells, in order.
func TestDense(t *testing.T) {
	for _, row := range shapes() {
		var strides []int
		for axis := range row {
			stride := 1
			for _, length := range row[axis+1:] {
				stride *= length
			}
			strides = append(strides, stride)
		}
		v, err := Dense(row)
		expectView(t, "Dense", v, err, View{0, row, strides}, api.OK)
		size := len(indexes(row))
		for n, cell := range v.Cells() {
			if n != cell {
				t.Errorf("Dense of %v: cell %d is %d", row, n, cell)
			}
		}
		if len(v.Cells()) != size {
			t.Errorf("Dense of %v: %d cells", row, len(v.Cells()))
		}
		expectCheck(t, v, size, api.OK)
		expectCheck(t, v, size-1, api.ErrRange)
	}
}

// P8.1: Dense of what is no shape: Size's error.
func TestDenseOfNoShape(t *testing.T) {
	for _, row := range noShapes() {
		v, err := Dense(row)
		expectError(t, "Dense", v, err, sizeError(row))
	}
}

// P8.1: Check with fewer or more strides than axes, whatever else is wrong.
func TestCheckOfStrides(t *testing.T) {
	for _, row := range append(shapes(), noShapes()...) {
		for strides := range 8 {
			if strides == len(row) {
				continue
			}
			for _, offset := range []int{0, -1, math.MaxInt} {
				expectCheck(t, View{offset, row, make([]int, strides)}, 4096, api.ErrArg)
			}
		}
	}
}

// P8.1: Check of numbers of cells below 0, and above MaxCells, and at these bounds.
func TestCheckOfCells(t *testing.T) {
	for _, cells := range []int{-1, -2, -4096, math.MinInt, 4097, 4098, 1 << 32, math.MaxInt} {
		for _, v := range good() {
			expectCheck(t, v, cells, api.ErrArg)
		}
		for _, c := range bad() {
			expectCheck(t, c.v, cells, api.ErrArg)
		}
	}
	for _, v := range good() {
		expectCheck(t, v, 0, api.ErrRange)
		expectCheck(t, v, 4096, api.OK)
	}
	expectCheck(t, View{0, []int{0}, []int{1}}, 0, api.ErrShape)
}

// P8.1: Check of what is no shape: Size's error, whatever the offset and the strides.
func TestCheckOfNoShape(t *testing.T) {
	for _, row := range noShapes() {
		for _, number := range great() {
			strides := slices.Repeat([]int{number}, len(row))
			for _, cells := range []int{0, 1, 4096} {
				expectCheck(t, View{0, row, strides}, cells, sizeError(row))
				expectCheck(t, View{number, row, strides}, cells, sizeError(row))
			}
		}
	}
}

// P8.1: Check of what can't be.
func TestCheckOfBadViews(t *testing.T) {
	for _, c := range bad() {
		expectCheck(t, c.v, 4096, c.err)
	}
}

// P8.1: Check of as many cells as reach just to a view's greatest one, of fewer and of more, and of the view moved till its least is below 0.
func TestCheckAtTheBounds(t *testing.T) {
	for _, v := range goodViews() {
		cells, _ := wanted(v, 4096)
		greatest, least := slices.Max(cells), slices.Min(cells)
		for count := max(0, greatest-3); count <= min(4096, greatest+3); count++ {
			want := api.OK
			if count <= greatest {
				want = api.ErrRange
			}
			expectCheck(t, v, count, want)
		}
		moved := twin(v)
		moved.Offset -= least
		expectCheck(t, moved, 4096, api.OK)
		expectCheck(t, moved, greatest-least+1, api.OK)
		moved.Offset--
		expectCheck(t, moved, 4096, api.ErrRange)
		moved.Offset = v.Offset + 4095 - greatest
		expectCheck(t, moved, 4096, api.OK)
		moved.Offset++
		expectCheck(t, moved, 4096, api.ErrRange)
	}
}

// P8.1: Check of all small views of one and two axes, about all their bounds.
func TestCheckOfSmallViews(t *testing.T) {
	for offset := -1; offset <= 7; offset++ {
		for stride := -4; stride <= 4; stride++ {
			for cells := range 8 {
				for length := 1; length <= 4; length++ {
					v := View{offset, []int{length}, []int{stride}}
					_, err := wanted(v, cells)
					expectCheck(t, v, cells, err)
				}
				for second := -4; second <= 4; second++ {
					for _, row := range [][]int{{2, 2}, {2, 3}, {3, 1}, {1, 2}} {
						v := View{offset, row, []int{stride, second}}
						_, err := wanted(v, cells)
						expectCheck(t, v, cells, err)
					}
				}
			}
		}
	}
}

// P8.1: Check and Cells of mingled views of all numbers of axes, each answer met.
func TestCheckOfMingledViews(t *testing.T) {
	met := map[api.Errno]int{}
	for n, v := range mingledViews(20000) {
		cells := 30 + n%60
		_, err := wanted(v, cells)
		met[err]++
		expectCheck(t, v, cells, err)
		list, _ := wanted(v, 4096)
		expectCells(t, v, list)
	}
	for _, err := range []api.Errno{api.OK, api.ErrRange, api.ErrSelf} {
		if met[err] < 500 {
			t.Errorf("%d met only %d times", err, met[err])
		}
	}
}

// P8.1: Check of offsets and strides so great that cells go beyond 64 bits.
func TestCheckOfGreatNumbers(t *testing.T) {
	numbers := great()
	for _, offset := range numbers {
		for _, first := range numbers {
			for _, row := range [][]int{{1}, {2}, {3}, {4}, {5}, {9}} {
				v := View{offset, row, []int{first}}
				_, err := wanted(v, 4096)
				expectCheck(t, v, 4096, err)
			}
			for _, second := range numbers {
				for _, row := range [][]int{{1, 1}, {2, 2}, {2, 1}, {1, 3}, {3, 2}, {5, 3}} {
					v := View{offset, row, []int{first, second}}
					_, err := wanted(v, 4096)
					expectCheck(t, v, 4096, err)
				}
			}
		}
	}
}

// P8.1: cells that are among them only if they go round.
func TestCheckGoesNotRound(t *testing.T) {
	for _, v := range []View{
		{0, []int{2, 2, 2}, []int{math.MaxInt, math.MinInt, 1}},
		{1, []int{3, 2}, []int{math.MinInt, 2}},
		{5, []int{2, 2, 2, 2}, []int{1 << 62, 1 << 62, -1 << 62, -1 << 62}},
		{5, []int{5}, []int{1 << 62}},
		{5, []int{5}, []int{-1 << 62}},
		{0, []int{4096}, []int{1 << 52}},
		{0, []int{4096}, []int{math.MaxInt}},
		{4095, []int{4096}, []int{math.MinInt}},
		{0, []int{2, 2}, []int{4096, -4096}},
		{math.MinInt, []int{2}, []int{math.MinInt}},
		{math.MaxInt, []int{2}, []int{1}},
		{0, []int{1025}, []int{1 << 54}},
		{0, []int{3}, []int{math.MinInt}},
	} {
		expectCheck(t, v, 4096, api.ErrRange)
		expectCells(t, v, nil)
	}
}

// P8.1: an index's cell that isn't among so many goes ahead of two with the same.
func TestRangeGoesAheadOfSelf(t *testing.T) {
	v := View{3, []int{3, 2}, []int{0, 2}}
	expectCheck(t, v, 6, api.ErrSelf)
	expectCheck(t, v, 5, api.ErrRange)
	expectCheck(t, View{0, []int{2, 2, 2}, []int{1, 1, 4095}}, 4096, api.ErrRange)
}

// P8.1: two indexes with the same cell, close by and far apart, and views that just miss it.
func TestCheckOfSelf(t *testing.T) {
	for _, v := range []View{
		{0, []int{2}, []int{0}},
		{9, []int{4096}, []int{0}},
		{0, []int{1, 2}, []int{5, 0}},
		{0, []int{2, 3}, []int{2, 1}},
		{0, []int{5, 6}, []int{5, 4}},
		{0, []int{64, 64}, []int{63, 1}},
		{4000, []int{64, 64}, []int{-1, -60}},
		{0, []int{2, 2, 2, 2}, []int{1, 2, 4, 7}},
	} {
		expectCheck(t, v, 4096, api.ErrSelf)
	}
	for _, v := range []View{
		{0, []int{3, 3}, []int{2, 3}},
		{0, []int{5, 5}, []int{5, 4}},
		{0, []int{63, 64}, []int{64, 1}},
		{4095, []int{60, 64}, []int{-1, -60}},
		{0, []int{2, 2, 2, 2}, []int{1, 2, 4, 8}},
	} {
		expectCheck(t, v, 4096, api.OK)
	}
}

// P8.1: a stride of an axis with one index plays no part.
func TestStrideOfOneIndex(t *testing.T) {
	for _, stride := range great() {
		for _, v := range []View{
			{2, []int{1}, []int{stride}},
			{2, []int{1, 3}, []int{stride, 2}},
			{2, []int{3, 1}, []int{2, stride}},
			{2, []int{1, 3, 1}, []int{stride, 2, stride}},
			{2, []int{1, 1, 1, 3}, []int{stride, 5, stride, 2}},
		} {
			cells := []int{2, 4, 6}
			if len(v.Shape) == 1 {
				cells = []int{2}
			}
			expectCells(t, v, cells)
			expectCheck(t, v, cells[len(cells)-1]+1, api.OK)
			expectCheck(t, v, cells[len(cells)-1], api.ErrRange)
		}
		expectCheck(t, View{0, []int{1, 3}, []int{stride, 0}}, 4096, api.ErrSelf)
		expectCheck(t, View{-1, []int{1}, []int{stride}}, 4096, api.ErrRange)
	}
}

// P8.1: Cells in the order of the indexes.
func TestCells(t *testing.T) {
	expectCells(t, View{5, []int{3, 2}, []int{-2, -1}}, []int{5, 4, 3, 2, 1, 0})
	expectCells(t, View{10, []int{2, 3}, []int{1, 10}}, []int{10, 20, 30, 11, 21, 31})
	expectCells(t, View{0, []int{2, 2, 2}, []int{1, 2, 4}}, []int{0, 4, 2, 6, 1, 5, 3, 7})
	for _, v := range goodViews() {
		cells, _ := wanted(v, 4096)
		expectCells(t, v, cells)
	}
}

// P8.1: Cells of a view whose Check isn't OK: none.
func TestCellsOfBadViews(t *testing.T) {
	for _, c := range bad() {
		expectCells(t, c.v, nil)
	}
}

// P8.1: the error of Check comes first, and alone.
func TestErrorsOfCheck(t *testing.T) {
	for _, c := range bad() {
		for _, axes := range [][]int{nil, {0}, {0, 1}, {1, 0}, {0, 1, 2}, {-1}, {9, 9}} {
			w, err := c.v.Permute(axes...)
			expectError(t, "Permute", w, err, c.err)
		}
		for _, k := range []int{0, 1, -1, 2, 4, 5, math.MaxInt, math.MinInt} {
			for _, i := range []int{0, 1, -1, math.MaxInt} {
				w, err := c.v.Slice(k, i, 1, 1)
				expectError(t, "Slice", w, err, c.err)
				w, err = c.v.Pick(k, i)
				expectError(t, "Pick", w, err, c.err)
			}
			w, err := c.v.Reverse(k)
			expectError(t, "Reverse", w, err, c.err)
		}
	}
}

// P8.1: Permute by all rows of up to five axes of -1 to 4.
func TestPermute(t *testing.T) {
	for _, v := range []View{good()[0], good()[5], good()[19], good()[27], good()[31], good()[32]} {
		for count := range 6 {
			for _, axes := range indexes(slices.Repeat([]int{6}, count)) {
				for n := range axes {
					axes[n]--
				}
				w, err := v.Permute(axes...)
				sorted := slices.Sorted(slices.Values(axes))
				if !slices.Equal(sorted, []int{0, 1, 2, 3}[:len(v.Shape)]) {
					expectError(t, "Permute", w, err, api.ErrAxis)
					continue
				}
				want := View{Offset: v.Offset}
				for _, axis := range axes {
					want.Shape = append(want.Shape, v.Shape[axis])
					want.Stride = append(want.Stride, v.Stride[axis])
				}
				expectView(t, "Permute", w, err, want, api.OK)
				for n, index := range indexes(w.Shape) {
					back := make([]int, len(index))
					for m, axis := range axes {
						back[axis] = index[m]
					}
					if cell := bigCell(v, back); int64(w.Cells()[n]) != cell.Int64() {
						t.Errorf("Permute of %v by %v: %v has %d, not %d", v, axes, index, w.Cells()[n], cell)
					}
				}
			}
		}
	}
}

// P8.1: Permute of great numbers of axes, and of many.
func TestPermuteOfNoAxes(t *testing.T) {
	v := View{0, []int{2, 3}, []int{3, 1}}
	for _, axes := range [][]int{{math.MinInt, 0}, {0, math.MaxInt}, {0, 1 << 32}, {0, 1, 0}, {0, 1, 2}, {1}, nil, make([]int, 1000)} {
		w, err := v.Permute(axes...)
		expectError(t, "Permute", w, err, api.ErrAxis)
	}
	w, err := View{Offset: 3}.Permute()
	expectView(t, "Permute of none", w, err, View{Offset: 3}, api.OK)
	w, err = View{Offset: 3}.Permute(0)
	expectError(t, "Permute of none", w, err, api.ErrAxis)
}

// P8.1: Slice, Reverse and Pick of an axis that isn't there, whatever the rest is.
func TestNoSuchAxis(t *testing.T) {
	for _, v := range good() {
		axes := len(v.Shape)
		for _, k := range []int{-1, -2, -4, axes, axes + 1, 5, 1 << 32, math.MaxInt, math.MinInt} {
			for _, i := range []int{0, -1, 5000} {
				w, err := v.Slice(k, i, 1, 1)
				expectError(t, "Slice", w, err, api.ErrAxis)
				w, err = v.Pick(k, i)
				expectError(t, "Pick", w, err, api.ErrAxis)
			}
			w, err := v.Reverse(k)
			expectError(t, "Reverse", w, err, api.ErrAxis)
		}
	}
}

// sliced: what Slice answers by the chapter, with numbers that can't go round.
func sliced(v View, k, from, step, count int) (View, api.Errno) {
	n := v.Shape[k]
	if from < 0 || from >= n || count < 1 || count > n {
		return View{}, api.ErrRange
	}
	last := big.NewInt(int64(step))
	last.Mul(last, big.NewInt(int64(count-1)))
	last.Add(last, big.NewInt(int64(from)))
	if count > 1 && (step == 0 || last.Sign() < 0 || last.Cmp(big.NewInt(int64(n))) >= 0) {
		return View{}, api.ErrRange
	}
	w := twin(v)
	index := make([]int, len(v.Shape))
	index[k] = from
	w.Offset = int(bigCell(v, index).Int64())
	w.Shape[k] = count
	if count > 1 {
		w.Stride[k] = step * v.Stride[k]
	}
	return w, api.OK
}

// expectSlice: Slice's answer, and that index i of the axis stands for from + i step.
func expectSlice(t *testing.T, v View, k, from, step, count int) api.Errno {
	t.Helper()
	w, err := v.Slice(k, from, step, count)
	want, wantErr := sliced(v, k, from, step, count)
	if wantErr != api.OK {
		expectError(t, "Slice", w, err, wantErr)
		return wantErr
	}
	expectView(t, "Slice", w, err, want, api.OK)
	cells := w.Cells()
	all := indexes(want.Shape)
	if len(cells) != len(all) {
		t.Errorf("Slice of %v: %v has %d cells, not %d", v, w, len(cells), len(all))
		return wantErr
	}
	for n, index := range all {
		index[k] = from + index[k]*step
		if cell := bigCell(v, index).Int64(); int64(cells[n]) != cell {
			t.Errorf("Slice of %v: %v has %d, not %d", v, w, cells[n], cell)
		}
	}
	return wantErr
}

// P8.1: Slice by all numbers about the bounds of axes of 1 to 5 indexes.
func TestSlice(t *testing.T) {
	made := 0
	for _, v := range []View{
		{3, []int{1}, []int{math.MinInt}}, {3, []int{2}, []int{9}}, {40, []int{3}, []int{-7}}, {0, []int{5}, []int{1}},
		{50, []int{4, 3}, []int{1, -5}}, {7, []int{2, 1, 3}, []int{6, math.MaxInt, 2}}, {30, []int{2, 2, 4, 1}, []int{1, 2, -4, 0}},
	} {
		for k, length := range v.Shape {
			for from := -2; from <= length+1; from++ {
				for step := -length - 2; step <= length+2; step++ {
					for count := -2; count <= length+2; count++ {
						if expectSlice(t, v, k, from, step, count) == api.OK {
							made++
						}
					}
				}
			}
		}
	}
	if made < 300 {
		t.Errorf("only %d slices", made)
	}
}

// P8.1: Slice of mingled views by mingled numbers.
func TestSliceOfMingledViews(t *testing.T) {
	m := mingled(362436069)
	for _, v := range smallViews() {
		for k, length := range v.Shape {
			for range 5 {
				expectSlice(t, v, k, m.below(length+1), m.below(2*length+1)-length, 1+m.below(length))
			}
		}
	}
}

// P8.1: Slice by numbers so great that from + (count - 1) step goes beyond 64 bits.
func TestSliceByGreatNumbers(t *testing.T) {
	for _, v := range []View{{0, []int{9}, []int{3}}, {0, []int{1}, []int{math.MinInt}}, {4095, []int{4, 2}, []int{-5, -1}}} {
		for _, step := range great() {
			for from := range 5 {
				for count := 1; count <= 9; count++ {
					expectSlice(t, v, 0, from, step, count)
				}
			}
			for _, number := range great() {
				expectSlice(t, v, 0, number, step, 1)
				expectSlice(t, v, 0, 0, step, number)
				expectSlice(t, v, 0, number, 1, step)
			}
		}
	}
	long := View{0, []int{4096}, []int{1}}
	for _, step := range []int{1 << 52, -1 << 52, math.MaxInt, math.MinInt, 1, -1, 2, 4095, 4096} {
		for _, count := range []int{1, 2, 3, 1025, 2049, 4096} {
			expectSlice(t, long, 0, 0, step, count)
			expectSlice(t, long, 0, 1, step, count)
			expectSlice(t, long, 0, 4095, step, count)
		}
	}
}

// P8.1: with a count of 1 any step does, and the stride is as it was.
func TestSliceOfOne(t *testing.T) {
	v := View{10, []int{3, 4, 1}, []int{4, -1, math.MinInt}}
	for _, step := range great() {
		w, err := v.Slice(0, 2, step, 1)
		expectView(t, "Slice of one", w, err, View{18, []int{1, 4, 1}, []int{4, -1, math.MinInt}}, api.OK)
		w, err = v.Slice(1, 3, step, 1)
		expectView(t, "Slice of one", w, err, View{7, []int{3, 1, 1}, []int{4, -1, math.MinInt}}, api.OK)
		w, err = v.Slice(2, 0, step, 1)
		expectView(t, "Slice of one", w, err, v, api.OK)
	}
}

// P8.1: Reverse goes the other way round, and twice is as it was.
func TestReverse(t *testing.T) {
	for _, v := range goodViews() {
		for k, length := range v.Shape {
			last := make([]int, len(v.Shape))
			last[k] = length - 1
			want := twin(v)
			want.Offset = int(bigCell(v, last).Int64())
			if length > 1 {
				want.Stride[k] = -v.Stride[k]
			}
			w, err := v.Reverse(k)
			expectView(t, "Reverse", w, err, want, api.OK)
			var cells []int
			for _, index := range indexes(v.Shape) {
				index[k] = length - 1 - index[k]
				cells = append(cells, int(bigCell(v, index).Int64()))
			}
			expectCells(t, w, cells)
			w, err = w.Reverse(k)
			expectView(t, "Reverse twice", w, err, v, api.OK)
		}
	}
}

// P8.1: Reverse of an axis with one index: all as it was, whatever the stride.
func TestReverseOfOneIndex(t *testing.T) {
	for _, stride := range great() {
		v := View{5, []int{1, 2}, []int{stride, 3}}
		w, err := v.Reverse(0)
		expectView(t, "Reverse of one", w, err, v, api.OK)
		w, err = v.Reverse(1)
		expectView(t, "Reverse beside one", w, err, View{8, []int{1, 2}, []int{stride, -3}}, api.OK)
	}
}

// P8.1: Pick of each index, and of others.
func TestPick(t *testing.T) {
	for _, v := range smallViews() {
		for k, length := range v.Shape {
			for i := range length {
				want := View{Offset: v.Offset}
				if i > 0 {
					want.Offset += i * v.Stride[k]
				}
				for axis := range v.Shape {
					if axis != k {
						want.Shape = append(want.Shape, v.Shape[axis])
						want.Stride = append(want.Stride, v.Stride[axis])
					}
				}
				w, err := v.Pick(k, i)
				expectView(t, "Pick", w, err, want, api.OK)
				var cells []int
				for _, index := range indexes(v.Shape) {
					if index[k] == i {
						cells = append(cells, int(bigCell(v, index).Int64()))
					}
				}
				expectCells(t, w, cells)
			}
			for _, i := range []int{-1, -length, length, length + 1, 4096, 1 << 32, math.MaxInt, math.MinInt} {
				w, err := v.Pick(k, i)
				expectError(t, "Pick", w, err, api.ErrRange)
			}
		}
	}
}

// expectMade: that a view made of another can be, of so many cells as the other, and has only cells of that, each once.
func expectMade(t *testing.T, v, w View, all bool) {
	t.Helper()
	had := map[int]int{}
	cells, _ := wanted(v, 4096)
	for _, cell := range cells {
		had[cell] = 1
	}
	count := slices.Max(cells) + 1
	expectCheck(t, w, count, api.OK)
	made, err := wanted(w, count)
	if err != api.OK {
		t.Errorf("%v, of %v, can't be: %d", w, v, err)
	}
	for _, cell := range made {
		if had[cell] == 0 {
			t.Errorf("%v has %d, which %v hasn't", w, cell, v)
		}
		had[cell] = 0
	}
	if all && len(made) != len(cells) {
		t.Errorf("%v has %d cells, %v has %d", w, len(made), v, len(cells))
	}
}

// P8.2: all that is made of views that can be.
func TestMadeViewsCanBe(t *testing.T) {
	m := mingled(521288629)
	for _, v := range goodViews() {
		for k, length := range v.Shape {
			expectMade(t, v, must(t)(v.Reverse(k)), true)
			expectMade(t, v, must(t)(v.Pick(k, m.below(length))), false)
			for range 5 {
				if w, err := v.Slice(k, m.below(length), m.below(2*length)-length, 1+m.below(length)); err == api.OK {
					expectMade(t, v, w, false)
				}
			}
			expectMade(t, v, must(t)(v.Slice(k, 0, 1, length)), true)
			axes := []int{0, 1, 2, 3}[:len(v.Shape)]
			expectMade(t, v, must(t)(v.Permute(append(slices.Clone(axes[k:]), axes[:k]...)...)), true)
		}
	}
}

// P8.2: views made of views that were made, many times over.
func TestMadeOfMadeViews(t *testing.T) {
	m := mingled(88675123)
	for _, v := range goodViews() {
		w := v
		for range 12 {
			axes := len(w.Shape)
			if axes == 0 {
				break
			}
			k := m.below(axes)
			length := w.Shape[k]
			switch m.below(5) {
			case 0:
				w = must(t)(w.Reverse(k))
			case 1:
				w = must(t)(w.Permute(append([]int{1, 2, 3}[:axes-1], 0)...))
			case 2:
				w = must(t)(w.Slice(k, length-1, -1, 1+m.below(length)))
			case 3:
				w = must(t)(w.Slice(k, 0, 2, (length+1)/2))
			default:
				if m.below(4) == 0 {
					w = must(t)(w.Pick(k, m.below(length)))
				}
			}
			expectMade(t, v, w, false)
		}
	}
}

// P8.2: all indexes picked one by one have together just the cells of the view.
func TestPicksHaveAllCells(t *testing.T) {
	for _, v := range smallViews() {
		for k, length := range v.Shape {
			var cells []int
			for i := range length {
				cells = append(cells, must(t)(v.Pick(k, i)).Cells()...)
			}
			slices.Sort(cells)
			if want := slices.Sorted(slices.Values(v.Cells())); !slices.Equal(cells, want) {
				t.Errorf("%v along %d: %v, not %v", v, k, cells, want)
			}
		}
	}
}

// P8.1: Meet of views with a cell in common, and without.
func TestMeet(t *testing.T) {
	even, odd := View{0, []int{5}, []int{2}}, View{1, []int{5}, []int{2}}
	for _, c := range []struct {
		a, b View
		meet bool
	}{
		{even, odd, false},
		{even, even, true},
		{View{}, View{}, true},
		{View{}, View{Offset: 1}, false},
		{View{Offset: 4095}, View{0, []int{4096}, []int{1}}, true},
		{even, View{9, []int{2, 2}, []int{-2, -4}}, false},
		{even, View{9, []int{2, 2}, []int{-1, -4}}, true},
		{even, View{8, []int{1, 3}, []int{math.MinInt, 100}}, true},
		{even, View{10, []int{3}, []int{1}}, false},
		{View{0, []int{2, 2}, []int{8, 1}}, View{2, []int{2, 2}, []int{8, 1}}, false},
		{View{0, []int{2, 3}, []int{8, 1}}, View{2, []int{2, 2}, []int{8, 1}}, true},
	} {
		if Meet(c.a, c.b) != c.meet || Meet(c.b, c.a) != c.meet {
			t.Errorf("Meet of %v and %v isn't %v", c.a, c.b, c.meet)
		}
	}
}

// P8.1: Meet of mingled views, both answers met.
func TestMeetOfMingledViews(t *testing.T) {
	met := map[bool]int{}
	views := smallViews()
	for n, a := range views {
		for _, b := range []View{views[(n*7+3)%len(views)], views[(n*31+1)%len(views)], a} {
			first, _ := wanted(a, 4096)
			second, _ := wanted(b, 4096)
			meet := slices.ContainsFunc(first, func(cell int) bool { return slices.Contains(second, cell) })
			met[meet]++
			if Meet(a, b) != meet || Meet(b, a) != meet {
				t.Errorf("Meet of %v and %v isn't %v", a, b, meet)
			}
		}
	}
	if met[true] < 100 || met[false] < 100 {
		t.Errorf("%v", met)
	}
}

// P8.1: Meet is false, if Check of MaxCells isn't OK for one.
func TestMeetOfBadViews(t *testing.T) {
	whole := View{0, []int{4096}, []int{1}}
	for _, c := range bad() {
		if Meet(c.v, whole) || Meet(whole, c.v) || Meet(c.v, c.v) {
			t.Errorf("Meet of %v", c.v)
		}
	}
}

// roomy: a list with marks in the room behind it, and the whole of it.
func roomy(list []int) ([]int, []int) {
	whole := append(slices.Clone(list), 71, 72, 73)
	return whole[:len(list)], whole
}

// scribble: writes over a view's lists, and the room behind them.
func scribble(v View) {
	for _, list := range [][]int{v.Shape, v.Stride} {
		list = list[:cap(list)]
		for n := range list {
			list[n] = -99
		}
	}
}

// P8.1: no call changes what it is handed, nor the room behind it, and what is answered is new memory.
func TestViewsStayAsTheyWere(t *testing.T) {
	views := good()
	for _, c := range bad() {
		views = append(views, c.v)
	}
	for _, v := range views {
		row, wholeRow := roomy(v.Shape)
		strides, wholeStrides := roomy(v.Stride)
		handed := View{v.Offset, row, strides}
		axes, wholeAxes := roomy([]int{3, 2, 1, 0}[4-min(4, len(row)):])
		made := []View{}
		keep := func(w View, _ api.Errno) { made = append(made, w) }
		keep(Dense(row))
		handed.Check(4096)
		cells := handed.Cells()
		keep(handed.Permute(axes...))
		for k := range row {
			keep(handed.Reverse(k))
			keep(handed.Pick(k, 0))
			keep(handed.Slice(k, 0, 1, row[k]))
			keep(handed.Slice(k, 0, 1, 1))
		}
		Meet(handed, handed)
		for n := range cells[:cap(cells)] {
			cells[:cap(cells)][n] = -98
		}
		for _, w := range made {
			scribble(w)
		}
		if !slices.Equal(wholeRow, append(slices.Clone(v.Shape), 71, 72, 73)) || !slices.Equal(wholeStrides, append(slices.Clone(v.Stride), 71, 72, 73)) {
			t.Errorf("%v became %v, %v", v, wholeRow, wholeStrides)
		}
		if !slices.Equal(wholeAxes[len(axes):], []int{71, 72, 73}) || !slices.IsSortedFunc(axes, func(a, b int) int { return b - a }) {
			t.Errorf("the axes became %v", wholeAxes)
		}
	}
}

// P8.1: what is written into the arguments behind a call isn't seen in what it made, and no two lists of an answer share memory.
func TestAnswersAreNewMemory(t *testing.T) {
	row := []int{2, 3}
	v := must(t)(Dense(row))
	row[0], row[1] = 9, 9
	expectCells(t, v, []int{0, 1, 2, 3, 4, 5})
	// One list for both: a view may be handed so, but none is answered so.
	both := []int{2, 1}
	handed := View{0, both, both}
	axes := []int{0, 1}
	made := []View{must(t)(handed.Permute(axes...)), must(t)(handed.Slice(0, 0, 1, 2)), must(t)(handed.Slice(1, 0, 1, 1)), must(t)(handed.Reverse(1))}
	both[0], both[1], axes[0], axes[1] = 7, 7, 7, 7
	for n, w := range made {
		expectView(t, "made", w, api.OK, View{0, []int{2, 1}, []int{2, 1}}, api.OK)
		w.Shape[0] = 8
		if w.Stride[0] != 2 {
			t.Errorf("%d: the lists share memory", n)
		}
	}
}

package tests

import (
	"math"
	"math/big"
	"math/rand"
	"slices"
	"testing"

	"loop.example/g00033/impl"
)

func ints(xs ...int) []int { return xs }

func viewOf(dims []int, strides []int, offset int, base int) impl.View {
	return impl.View{Dims: dims, Strides: strides, Offset: offset, Base: base}
}

func sameView(v impl.View, w impl.View) bool {
	return slices.Equal(v.Dims, w.Dims) && slices.Equal(v.Strides, w.Strides) && v.Offset == w.Offset && v.Base == w.Base
}

func isNoView(v impl.View) bool { return sameView(v, impl.View{}) }

// wantDims says by exact numbers what the document says of dims.
func wantDims(dims []int) bool {
	product := big.NewInt(1)
	for _, length := range dims {
		if length < 1 {
			return false
		}
		product.Mul(product, wide(length))
	}
	return len(dims) <= 6 && product.Cmp(big.NewInt(4096)) <= 0
}

// indexesOf gives all indexes of dims, in order.
func indexesOf(dims []int) [][]int {
	out := [][]int{{}}
	for _, length := range dims {
		var longer [][]int
		for _, index := range out {
			for i := 0; i < length; i++ {
				longer = append(longer, append(slices.Clone(index), i))
			}
		}
		out = longer
	}
	return out
}

// placeIn is the place of an index by the document's words.
func placeIn(v impl.View, index []int) int {
	place := v.Offset
	for axis, i := range index {
		place += i * v.Strides[axis]
	}
	return place
}

// wantPlaces gives all places and whether v is ViewOk, asked index by index.
func wantPlaces(v impl.View) ([]int, bool) {
	if !wantDims(v.Dims) || len(v.Strides) != len(v.Dims) || v.Base < 1 || v.Base > 4096 {
		return nil, false
	}
	for _, stride := range v.Strides {
		if stride < -4096 || stride > 4096 {
			return nil, false
		}
	}
	// With an Offset so far off no sum of strides comes back into the list.
	if v.Offset < -1<<40 || v.Offset > 1<<40 {
		return nil, false
	}
	var out []int
	for _, index := range indexesOf(v.Dims) {
		place := placeIn(v, index)
		if place < 0 || place >= v.Base {
			return nil, false
		}
		out = append(out, place)
	}
	return out, true
}

// fitted gives the view of these dims and strides with the least Offset and
// Base, and some room beside.
func fitted(dims []int, strides []int, before int, after int) impl.View {
	least, greatest := 0, 0
	for axis, stride := range strides {
		least += min(0, stride*(dims[axis]-1))
		greatest += max(0, stride*(dims[axis]-1))
	}
	return viewOf(dims, strides, before-least, before-least+greatest+1+after)
}

// someViews gives views that are ViewOk, with strides of all signs.
func someViews(count int, seed int64) []impl.View {
	source := rand.New(rand.NewSource(seed))
	var out []impl.View
	for len(out) < count {
		rank := source.Intn(7)
		dims, strides := make([]int, rank), make([]int, rank)
		for axis := range dims {
			dims[axis] = 1 + source.Intn(4)
			strides[axis] = source.Intn(19) - 9
			if dims[axis] == 1 && source.Intn(2) == 0 {
				strides[axis] = source.Intn(8193) - 4096
			}
		}
		v := fitted(dims, strides, source.Intn(3), source.Intn(3))
		if _, ok := wantPlaces(v); ok {
			out = append(out, v)
		}
	}
	return out
}

func edgeViews() []impl.View {
	return []impl.View{
		viewOf(nil, nil, 0, 1),
		viewOf(nil, nil, 2, 5),
		viewOf(ints(), ints(), 4095, 4096),
		viewOf(ints(1), ints(0), 0, 1),
		viewOf(ints(1), ints(4096), 0, 1),
		viewOf(ints(1), ints(-4096), 3, 4),
		viewOf(ints(4096), ints(1), 0, 4096),
		viewOf(ints(4096), ints(-1), 4095, 4096),
		viewOf(ints(4096), ints(0), 7, 8),
		viewOf(ints(2), ints(4095), 0, 4096),
		viewOf(ints(2), ints(-4095), 4095, 4096),
		viewOf(ints(64, 64), ints(64, 1), 0, 4096),
		viewOf(ints(64, 64), ints(1, 64), 0, 4096),
		viewOf(ints(4, 4, 4, 4, 4, 4), ints(1024, 256, 64, 16, 4, 1), 0, 4096),
		viewOf(ints(1, 1, 1, 1, 1, 1), ints(4096, -4096, 1, -1, 0, 7), 5, 6),
		viewOf(ints(2, 3), ints(3, 1), 0, 6),
		viewOf(ints(3, 2), ints(1, 3), 0, 6),
		viewOf(ints(3, 4), ints(-4, -1), 11, 12),
		viewOf(ints(2, 1, 3), ints(3, 9, 1), 0, 6),
		viewOf(ints(5, 4), ints(1, 1), 0, 8),
		viewOf(ints(3, 3), ints(1, -1), 2, 5),
		viewOf(ints(2, 2), ints(0, 0), 1, 2),
	}
}

func goodViews() []impl.View { return append(edgeViews(), someViews(60, 31)...) }

func wrongViews() []impl.View {
	long := make([]int, 1000)
	for i := range long {
		long[i] = 1
	}
	return []impl.View{
		{},
		viewOf(nil, nil, 0, 0),
		viewOf(nil, nil, 0, -1),
		viewOf(nil, nil, -1, 1),
		viewOf(nil, nil, 1, 1),
		viewOf(nil, nil, 0, 4097),
		viewOf(nil, nil, math.MinInt, 1),
		viewOf(nil, nil, math.MaxInt, 1),
		viewOf(nil, nil, math.MaxInt, math.MaxInt),
		viewOf(nil, nil, 0, math.MinInt),
		viewOf(ints(2), nil, 0, 6),
		viewOf(nil, ints(1), 0, 6),
		viewOf(ints(2), ints(1, 1), 0, 6),
		viewOf(ints(2, 2), ints(1), 0, 6),
		viewOf(ints(2), ints(1, 0), 0, 6),
		viewOf(ints(1), ints(4097), 0, 1),
		viewOf(ints(1), ints(-4097), 0, 1),
		viewOf(ints(2), ints(4096), 0, 4096),
		viewOf(ints(2), ints(-4096), 4095, 4096),
		viewOf(ints(1), ints(math.MaxInt), 0, 1),
		viewOf(ints(1), ints(math.MinInt), 0, 1),
		viewOf(ints(2), ints(math.MinInt), 0, 1),
		viewOf(ints(3), ints(math.MinInt), 0, 1),
		viewOf(ints(3), ints(1<<62), 0, 1),
		viewOf(ints(0), ints(1), 0, 1),
		viewOf(ints(-1), ints(1), 0, 1),
		viewOf(ints(2, 0), ints(1, 1), 0, 4),
		viewOf(ints(4097), ints(0), 0, 1),
		viewOf(ints(64, 65), ints(0, 0), 0, 1),
		viewOf(ints(math.MinInt), ints(0), 0, 1),
		viewOf(ints(math.MaxInt), ints(0), 0, 1),
		viewOf(ints(1<<32, 1<<32), ints(0, 0), 0, 1),
		viewOf(ints(1, 1, 1, 1, 1, 1, 1), ints(0, 0, 0, 0, 0, 0, 0), 0, 1),
		viewOf(long, long, 0, 1),
		viewOf(ints(6), ints(1), 1, 6),
		viewOf(ints(6), ints(-1), 4, 6),
		viewOf(ints(6), ints(1), 0, 5),
		viewOf(ints(2, 3), ints(3, 1), -1, 6),
		viewOf(ints(2, 3), ints(3, 1), math.MinInt, 6),
		viewOf(ints(2, 3), ints(3, 1), math.MaxInt, 6),
		viewOf(ints(2, 3), ints(3, 1), math.MaxInt-5, 6),
		viewOf(ints(2, 3), ints(3, 1), 0, 0),
		viewOf(ints(2, 3), ints(3, 1), 0, 4097),
		viewOf(ints(2, 2), ints(3, -3), 0, 6),
		viewOf(ints(2, 2), ints(3, -3), 5, 6),
	}
}

// viewInts are the ints at which an axis, a count or a step may go wrong.
func viewInts() []int {
	return []int{
		math.MinInt, math.MinInt + 1, -1 << 32, -4097, -4096, -4095, -3, -2, -1, 0, 1, 2, 3, 4, 5, 6, 7,
		63, 64, 65, 4095, 4096, 4097, 1 << 32, 1 << 62, math.MaxInt - 1, math.MaxInt,
	}
}

// dimsOf gives all dims of a product.
func dimsOf(product int) [][]int {
	var out [][]int
	var try func(dims []int, left int)
	try = func(dims []int, left int) {
		if left == 1 {
			out = append(out, slices.Clone(dims))
		}
		if len(dims) == impl.MaxRank {
			return
		}
		for length := 1; length <= left; length++ {
			if left%length == 0 {
				try(append(slices.Clone(dims), length), left/length)
			}
		}
	}
	try(nil, product)
	return out
}

func TestViewLimits(t *testing.T) {
	if impl.MaxRank != 6 || impl.MaxSize != 4096 {
		t.Error("the constants of chapter 3")
	}
}

func TestDimsOkAndSizeOf(t *testing.T) {
	rows := []struct {
		dims []int
		want int
	}{
		{nil, 1}, {ints(), 1}, {ints(1), 1}, {ints(5), 5}, {ints(2, 3), 6}, {ints(4096), 4096}, {ints(4097), 0},
		{ints(64, 64), 4096}, {ints(64, 65), 0}, {ints(65, 64), 0}, {ints(4096, 1), 4096}, {ints(1, 4096, 1), 4096}, {ints(4096, 2), 0},
		{ints(17, 241), 0}, {ints(1, 1, 1, 1, 1, 1), 1}, {ints(1, 1, 1, 1, 1, 1, 1), 0}, {ints(4, 4, 4, 4, 4, 4), 4096},
		{ints(4, 4, 4, 4, 4, 5), 0}, {ints(2, 2, 2, 2, 2, 128), 4096}, {ints(2, 2, 2, 2, 2, 129), 0},
		{ints(0), 0}, {ints(-1), 0}, {ints(-1, -1), 0}, {ints(-2, -3), 0}, {ints(2, 0), 0}, {ints(0, 4097), 0}, {ints(4097, 0), 0}, {ints(3, -1), 0},
		{ints(math.MinInt), 0}, {ints(math.MaxInt), 0}, {ints(1, math.MinInt), 0}, {ints(1, math.MaxInt), 0}, {ints(math.MinInt, math.MinInt), 0},
		{ints(math.MaxInt, math.MaxInt), 0}, {ints(math.MinInt, -1), 0}, {ints(-1, math.MinInt), 0},
		// products that an int, wrapped round, would hold as 0, as 1 and as 2
		{ints(1<<32, 1<<32), 0}, {ints(1<<21, 1<<21, 1<<22), 0}, {ints(math.MaxInt, math.MaxInt), 0}, {ints(3, 6148914691236517206), 0},
		{ints(2, 1<<62, 2, 3), 0}, {make([]int, 1000), 0},
	}
	for _, row := range rows {
		if got := impl.SizeOf(row.dims); got != row.want {
			t.Errorf("SizeOf(%v) = %d, not %d", row.dims, got, row.want)
		}
		if got := impl.DimsOk(row.dims); got != (row.want > 0) {
			t.Errorf("DimsOk(%v) = %v", row.dims, got)
		}
	}
}

func TestDimsOkAgainstExact(t *testing.T) {
	checkDims := func(dims ...int) {
		want, product := wantDims(dims), 1
		for _, length := range dims {
			product *= length
		}
		if !want {
			product = 0
		}
		if impl.DimsOk(dims) != want || impl.SizeOf(dims) != product {
			t.Errorf("%v: DimsOk %v, SizeOf %d, not %v, %d", dims, impl.DimsOk(dims), impl.SizeOf(dims), want, product)
		}
	}
	for _, a := range viewInts() {
		checkDims(a)
		for _, b := range viewInts() {
			checkDims(a, b)
			for _, c := range viewInts() {
				checkDims(a, b, c)
				checkDims(a, 1, b, 1, c, 1)
				checkDims(2, a, 2, b, 2, c)
				checkDims(a, 1, b, 1, c, 1, 1)
			}
		}
	}
}

func TestWhole(t *testing.T) {
	rows := []struct {
		dims []int
		want impl.View
	}{
		{nil, viewOf(nil, nil, 0, 1)},
		{ints(1), viewOf(ints(1), ints(0), 0, 1)},
		{ints(7), viewOf(ints(7), ints(1), 0, 7)},
		{ints(4096), viewOf(ints(4096), ints(1), 0, 4096)},
		{ints(2, 3), viewOf(ints(2, 3), ints(3, 1), 0, 6)},
		{ints(2, 3, 4), viewOf(ints(2, 3, 4), ints(12, 4, 1), 0, 24)},
		{ints(3, 1), viewOf(ints(3, 1), ints(1, 0), 0, 3)},
		{ints(1, 3), viewOf(ints(1, 3), ints(0, 1), 0, 3)},
		{ints(2, 1, 3), viewOf(ints(2, 1, 3), ints(3, 0, 1), 0, 6)},
		{ints(1, 1, 1, 1, 1, 1), viewOf(ints(1, 1, 1, 1, 1, 1), ints(0, 0, 0, 0, 0, 0), 0, 1)},
		{ints(4, 4, 4, 4, 4, 4), viewOf(ints(4, 4, 4, 4, 4, 4), ints(1024, 256, 64, 16, 4, 1), 0, 4096)},
		{ints(64, 64), viewOf(ints(64, 64), ints(64, 1), 0, 4096)},
		{ints(64, 65), impl.View{}}, {ints(4097), impl.View{}}, {ints(0), impl.View{}}, {ints(2, -1), impl.View{}},
		{ints(1, 1, 1, 1, 1, 1, 1), impl.View{}}, {ints(math.MinInt), impl.View{}}, {ints(math.MaxInt, math.MaxInt), impl.View{}},
		{ints(1<<32, 1<<32), impl.View{}}, {make([]int, 1000), impl.View{}},
	}
	for _, row := range rows {
		if got := impl.Whole(row.dims); !sameView(got, row.want) {
			t.Errorf("Whole(%v) = %v, not %v", row.dims, got, row.want)
		}
	}
}

func TestPlacesOfWholeStandInOrder(t *testing.T) {
	for _, size := range []int{1, 2, 5, 12, 30, 64, 4096} {
		for i, dims := range dimsOf(size) {
			if size == 4096 && i%50 != 0 {
				continue
			}
			places := impl.Places(impl.Whole(dims))
			if len(places) != size {
				t.Fatalf("Places(Whole(%v)) are %d", dims, len(places))
			}
			for i, place := range places {
				if place != i {
					t.Fatalf("Places(Whole(%v)) has %d at %d", dims, place, i)
				}
			}
		}
	}
}

func TestViewOk(t *testing.T) {
	for _, v := range goodViews() {
		if !impl.ViewOk(v) {
			t.Errorf("ViewOk(%v) is false", v)
		}
	}
	for _, v := range wrongViews() {
		if impl.ViewOk(v) {
			t.Errorf("ViewOk(%v) is true", v)
		}
	}
}

// checkPlaces holds ViewOk, Place and Places against the document's words.
func checkPlaces(t *testing.T, v impl.View) {
	t.Helper()
	want, ok := wantPlaces(v)
	if impl.ViewOk(v) != ok {
		t.Fatalf("ViewOk(%v) is not %v", v, ok)
	}
	if got := impl.Places(v); !slices.Equal(got, want) {
		t.Fatalf("Places(%v) = %v, not %v", v, got, want)
	}
	if !ok {
		return
	}
	for i, index := range indexesOf(v.Dims) {
		if got := impl.Place(v, index); got != want[i] {
			t.Fatalf("Place(%v, %v) = %d, not %d", v, index, got, want[i])
		}
	}
}

func TestPlacesAgainstWords(t *testing.T) {
	for _, v := range append(goodViews(), wrongViews()...) {
		checkPlaces(t, v)
	}
	for _, v := range smallViews() {
		checkPlaces(t, v)
	}
	for _, v := range someViews(40, 32) {
		for off := -3; off <= 3; off++ {
			checkPlaces(t, viewOf(v.Dims, v.Strides, v.Offset+off, v.Base))
			checkPlaces(t, viewOf(v.Dims, v.Strides, v.Offset, v.Base+off))
		}
		for _, x := range viewInts() {
			checkPlaces(t, viewOf(v.Dims, v.Strides, x, v.Base))
			checkPlaces(t, viewOf(v.Dims, v.Strides, v.Offset, x))
			checkPlaces(t, viewOf(append(slices.Clone(v.Dims), 1), append(slices.Clone(v.Strides), x), v.Offset, v.Base))
			checkPlaces(t, viewOf(append(slices.Clone(v.Dims), 2), append(slices.Clone(v.Strides), x), v.Offset, v.Base))
			checkPlaces(t, viewOf(append(slices.Clone(v.Dims), x), append(slices.Clone(v.Strides), 0), v.Offset, v.Base))
		}
	}
}

func TestPlaceOfWhatIsNoIndex(t *testing.T) {
	v := viewOf(ints(2, 3), ints(3, 1), 0, 6)
	rows := []struct {
		index []int
		want  int
	}{
		{ints(0, 0), 0}, {ints(1, 2), 5}, {ints(1, 0), 3}, {ints(0, 2), 2},
		{nil, -1}, {ints(0), -1}, {ints(0, 0, 0), -1}, {ints(2, 0), -1}, {ints(0, 3), -1}, {ints(-1, 0), -1}, {ints(0, -1), -1},
		{ints(1, -1), -1}, {ints(math.MinInt, 0), -1}, {ints(0, math.MaxInt), -1}, {ints(1<<62, 0), -1}, {make([]int, 1000), -1},
	}
	for _, row := range rows {
		if got := impl.Place(v, row.index); got != row.want {
			t.Errorf("Place(%v, %v) = %d, not %d", v, row.index, got, row.want)
		}
	}
	single := viewOf(nil, nil, 3, 4)
	if impl.Place(single, nil) != 3 || impl.Place(single, ints()) != 3 || impl.Place(single, ints(0)) != -1 {
		t.Error("Place of a view without Dims")
	}
	for _, v := range wrongViews() {
		if got := impl.Place(v, make([]int, len(v.Dims))); got != -1 {
			t.Errorf("Place(%v, noughts) = %d", v, got)
		}
	}
	for _, v := range goodViews() {
		for axis, length := range v.Dims {
			for _, i := range append(viewInts(), length-1, length) {
				index := make([]int, len(v.Dims))
				index[axis] = i
				want := -1
				if i >= 0 && i < length {
					want = v.Offset + i*v.Strides[axis]
				}
				if got := impl.Place(v, index); got != want {
					t.Errorf("Place(%v, %v) = %d, not %d", v, index, got, want)
				}
			}
		}
	}
}

func TestPlacesRows(t *testing.T) {
	rows := []struct {
		v    impl.View
		want []int
	}{
		{viewOf(nil, nil, 0, 1), ints(0)},
		{viewOf(nil, nil, 2, 5), ints(2)},
		{viewOf(ints(1), ints(4096), 4, 5), ints(4)},
		{viewOf(ints(3), ints(-2), 4, 5), ints(4, 2, 0)},
		{viewOf(ints(2, 3), ints(3, 1), 0, 6), ints(0, 1, 2, 3, 4, 5)},
		{viewOf(ints(3, 2), ints(1, 3), 0, 6), ints(0, 3, 1, 4, 2, 5)},
		{viewOf(ints(2, 2), ints(0, 1), 1, 3), ints(1, 2, 1, 2)},
		{viewOf(ints(2, 1, 2), ints(2, -9, -1), 1, 4), ints(1, 0, 3, 2)},
		{impl.View{}, nil},
		{viewOf(ints(6), ints(1), 1, 6), nil},
	}
	for _, row := range rows {
		if got := impl.Places(row.v); !slices.Equal(got, row.want) {
			t.Errorf("Places(%v) = %v, not %v", row.v, got, row.want)
		}
	}
}

// A wantedTurn is what the document says of a turned view: its Dims, for each
// of its indexes one of the view that was turned, and for each axis of length 1
// the stride (the other strides are what the places say).
type wantedTurn struct {
	dims []int
	lone []int
	from func(index []int) []int
}

func checkTurn(t *testing.T, name string, v impl.View, args []int, got impl.View, want *wantedTurn) {
	t.Helper()
	if want == nil || !wantDims(want.dims) {
		if !isNoView(got) {
			t.Fatalf("%s of %v, %v = %v, not no view", name, v, args, got)
		}
		return
	}
	if !slices.Equal(got.Dims, want.dims) || got.Base != v.Base || len(got.Strides) != len(got.Dims) {
		t.Fatalf("%s of %v, %v = %v, not of Dims %v", name, v, args, got, want.dims)
	}
	for axis, stride := range got.Strides {
		if got.Dims[axis] == 1 && stride != want.lone[axis] {
			t.Fatalf("%s of %v, %v = %v: stride %d is not %d", name, v, args, got, axis, want.lone[axis])
		}
	}
	for _, index := range indexesOf(want.dims) {
		if a, b := placeIn(got, index), placeIn(v, want.from(index)); a != b {
			t.Fatalf("%s of %v, %v = %v: at %v stands %d, not %d", name, v, args, got, index, a, b)
		}
	}
}

func axisIn(v impl.View, axis int) bool { return axis >= 0 && axis < len(v.Dims) }

func replaced(list []int, at int, x int) []int {
	out := slices.Clone(list)
	out[at] = x
	return out
}

func wantSlice(v impl.View, axis int, from int, count int, step int) *wantedTurn {
	if !axisIn(v, axis) || step < -4096 || step > 4096 || count < 1 || count > 4096 {
		return nil
	}
	i := from
	for range count {
		if i < 0 || i >= v.Dims[axis] {
			return nil
		}
		i += step
	}
	return &wantedTurn{
		dims: replaced(v.Dims, axis, count),
		lone: replaced(v.Strides, axis, 0),
		from: func(index []int) []int { return replaced(index, axis, from+index[axis]*step) },
	}
}

func wantPermute(v impl.View, axes []int) *wantedTurn {
	each := make([]int, len(v.Dims))
	for axis := range each {
		each[axis] = axis
	}
	if !slices.Equal(slices.Sorted(slices.Values(axes)), each) {
		return nil
	}
	out := &wantedTurn{}
	for _, axis := range axes {
		out.dims = append(out.dims, v.Dims[axis])
		out.lone = append(out.lone, v.Strides[axis])
	}
	out.from = func(index []int) []int {
		back := make([]int, len(index))
		for i, axis := range axes {
			back[axis] = index[i]
		}
		return back
	}
	return out
}

func wantSpread(v impl.View, dims []int) *wantedTurn {
	if len(dims) < len(v.Dims) {
		return nil
	}
	ahead := len(dims) - len(v.Dims)
	for axis, length := range v.Dims {
		if length != 1 && dims[ahead+axis] != length {
			return nil
		}
	}
	return &wantedTurn{
		dims: dims,
		lone: append(make([]int, ahead), v.Strides...),
		from: func(index []int) []int {
			back := slices.Clone(index[ahead:])
			for axis, length := range v.Dims {
				if length == 1 {
					back[axis] = 0
				}
			}
			return back
		},
	}
}

func wantWindows(v impl.View, axis int, size int, step int) *wantedTurn {
	if !axisIn(v, axis) || size < 1 || step < 1 || size > v.Dims[axis] {
		return nil
	}
	count := 0
	for i := 0; i+size <= v.Dims[axis] && count <= 4096; i += min(step, 4096) {
		count++
	}
	return &wantedTurn{
		dims: append(replaced(v.Dims, axis, count), size),
		lone: append(replaced(v.Strides, axis, 0), 0),
		from: func(index []int) []int {
			last := len(index) - 1
			return replaced(index[:last], axis, index[axis]*step+index[last])
		},
	}
}

func wantDiagonal(v impl.View, a int, b int) *wantedTurn {
	if !axisIn(v, a) || !axisIn(v, b) || a == b {
		return nil
	}
	out := &wantedTurn{}
	var kept []int
	for axis, length := range v.Dims {
		if axis != a && axis != b {
			kept = append(kept, axis)
			out.dims = append(out.dims, length)
			out.lone = append(out.lone, v.Strides[axis])
		}
	}
	out.dims = append(out.dims, min(v.Dims[a], v.Dims[b]))
	out.lone = append(out.lone, 0)
	out.from = func(index []int) []int {
		back := make([]int, len(v.Dims))
		for i, axis := range kept {
			back[axis] = index[i]
		}
		back[a], back[b] = index[len(kept)], index[len(kept)]
		return back
	}
	return out
}

func checkSlice(t *testing.T, v impl.View, axis int, from int, count int, step int) {
	t.Helper()
	checkTurn(t, "Slice", v, ints(axis, from, count, step), impl.Slice(v, axis, from, count, step), wantSlice(v, axis, from, count, step))
}

func checkPermute(t *testing.T, v impl.View, axes []int) {
	t.Helper()
	checkTurn(t, "Permute", v, axes, impl.Permute(v, axes), wantPermute(v, axes))
}

func checkSpread(t *testing.T, v impl.View, dims []int) {
	t.Helper()
	checkTurn(t, "Spread", v, dims, impl.Spread(v, dims), wantSpread(v, dims))
}

func checkWindows(t *testing.T, v impl.View, axis int, size int, step int) {
	t.Helper()
	checkTurn(t, "Windows", v, ints(axis, size, step), impl.Windows(v, axis, size, step), wantWindows(v, axis, size, step))
}

func checkDiagonal(t *testing.T, v impl.View, a int, b int) {
	t.Helper()
	checkTurn(t, "Diagonal", v, ints(a, b), impl.Diagonal(v, a, b), wantDiagonal(v, a, b))
}

type turnCase struct {
	got  impl.View
	want impl.View
}

func checkTurnCases(t *testing.T, name string, cases []turnCase) {
	t.Helper()
	for i, c := range cases {
		if !sameView(c.got, c.want) {
			t.Errorf("%s, row %d: %v, not %v", name, i, c.got, c.want)
		}
	}
}

func TestSliceRows(t *testing.T) {
	v := impl.Whole(ints(4, 6))
	lone := viewOf(ints(1, 3), ints(4096, 1), 0, 3)
	big := impl.Whole(ints(64, 64))
	line := impl.Whole(ints(4096))
	checkTurnCases(t, "Slice", []turnCase{
		{impl.Slice(v, 1, 0, 6, 1), v},
		{impl.Slice(v, 1, 2, 2, -1), viewOf(ints(4, 2), ints(6, -1), 2, 24)},
		{impl.Slice(v, 1, 5, 6, -1), viewOf(ints(4, 6), ints(6, -1), 5, 24)},
		{impl.Slice(v, 1, 1, 3, 2), viewOf(ints(4, 3), ints(6, 2), 1, 24)},
		{impl.Slice(v, 0, 3, 2, -3), viewOf(ints(2, 6), ints(-18, 1), 18, 24)},
		{impl.Slice(v, 0, 2, 1, 1), viewOf(ints(1, 6), ints(0, 1), 12, 24)},
		{impl.Slice(v, 0, 2, 1, 4096), viewOf(ints(1, 6), ints(0, 1), 12, 24)},
		{impl.Slice(v, 0, 2, 1, -4096), viewOf(ints(1, 6), ints(0, 1), 12, 24)},
		{impl.Slice(v, 0, 2, 1, 0), viewOf(ints(1, 6), ints(0, 1), 12, 24)},
		{impl.Slice(v, 0, 2, 5, 0), viewOf(ints(5, 6), ints(0, 1), 12, 24)},
		{impl.Slice(lone, 1, 1, 2, 1), viewOf(ints(1, 2), ints(4096, 1), 1, 3)},
		{impl.Slice(lone, 0, 0, 1, 1), viewOf(ints(1, 3), ints(0, 1), 0, 3)},
		{impl.Slice(lone, 0, 0, 2, 0), viewOf(ints(2, 3), ints(0, 1), 0, 3)},
		{impl.Slice(big, 0, 1, 64, 0), viewOf(ints(64, 64), ints(0, 1), 64, 4096)},
		{impl.Slice(line, 0, 4095, 4096, -1), viewOf(ints(4096), ints(-1), 4095, 4096)},
		{impl.Slice(line, 0, 0, 2, 4095), viewOf(ints(2), ints(4095), 0, 4096)},
		{impl.Slice(impl.Slice(line, 0, 4095, 4096, -1), 0, 4095, 2, -4095), viewOf(ints(2), ints(4095), 0, 4096)},
		{impl.Slice(big, 0, 1, 65, 0), impl.View{}},
		{impl.Slice(line, 0, 0, 4097, 0), impl.View{}},
		{impl.Slice(v, 0, 2, 1, 4097), impl.View{}},
		{impl.Slice(v, 0, 2, 1, -4097), impl.View{}},
		{impl.Slice(v, 0, 2, 0, 1), impl.View{}},
		{impl.Slice(v, 0, 2, -1, 1), impl.View{}},
		{impl.Slice(v, 1, 0, 7, 1), impl.View{}},
		{impl.Slice(v, 1, 1, 6, 1), impl.View{}},
		{impl.Slice(v, 1, 4, 6, -1), impl.View{}},
		{impl.Slice(v, 1, 6, 1, 1), impl.View{}},
		{impl.Slice(v, 1, -1, 2, 1), impl.View{}},
		{impl.Slice(v, 1, 6, 2, -1), impl.View{}},
		{impl.Slice(v, 2, 0, 1, 1), impl.View{}},
		{impl.Slice(v, -1, 0, 1, 1), impl.View{}},
		{impl.Slice(v, 1, math.MaxInt, 2, 1), impl.View{}},
		{impl.Slice(v, 1, math.MinInt, 2, -1), impl.View{}},
		{impl.Slice(v, 1, 0, math.MaxInt, 0), impl.View{}},
		{impl.Slice(v, 1, 0, 1<<62+1, 4), impl.View{}}, // count times step would be 4, wrapped round
		{impl.Slice(v, 1, 0, 2, math.MinInt), impl.View{}},
		{impl.Slice(v, 1, 0, 3, math.MinInt), impl.View{}},
		{impl.Slice(v, 1, 0, 1, math.MaxInt), impl.View{}},
		{impl.Slice(viewOf(nil, nil, 0, 1), 0, 0, 1, 1), impl.View{}},
		{impl.Slice(impl.View{}, 0, 0, 1, 1), impl.View{}},
	})
}

func TestSliceAgainstWords(t *testing.T) {
	source := rand.New(rand.NewSource(33))
	edges := viewInts()
	edge := func() int { return edges[source.Intn(len(edges))] }
	for _, v := range goodViews() {
		for range 40 {
			checkSlice(t, v, edge(), edge(), edge(), edge())
			checkSlice(t, v, source.Intn(8)-1, source.Intn(6)-1, source.Intn(6)-1, source.Intn(9)-4)
			checkSlice(t, v, source.Intn(8)-1, source.Intn(6)-1, source.Intn(6)-1, edge())
			checkSlice(t, v, source.Intn(8)-1, source.Intn(6)-1, edge(), source.Intn(9)-4)
			checkSlice(t, v, source.Intn(8)-1, edge(), source.Intn(6)-1, source.Intn(9)-4)
			checkSlice(t, v, edge(), source.Intn(6)-1, source.Intn(6)-1, source.Intn(9)-4)
		}
	}
	v := viewOf(ints(2, 5), ints(-7, 2), 8, 18)
	for axis := -1; axis <= 2; axis++ {
		for from := -1; from <= 5; from++ {
			for count := -1; count <= 6; count++ {
				for step := -6; step <= 6; step++ {
					checkSlice(t, v, axis, from, count, step)
				}
			}
		}
	}
}

func TestPermuteRows(t *testing.T) {
	v := viewOf(ints(2, 3, 1), ints(3, 1, -4096), 0, 6)
	six := impl.Whole(ints(4, 4, 4, 4, 4, 4))
	checkTurnCases(t, "Permute", []turnCase{
		{impl.Permute(v, ints(0, 1, 2)), v},
		{impl.Permute(v, ints(2, 0, 1)), viewOf(ints(1, 2, 3), ints(-4096, 3, 1), 0, 6)},
		{impl.Permute(v, ints(1, 0, 2)), viewOf(ints(3, 2, 1), ints(1, 3, -4096), 0, 6)},
		{impl.Permute(viewOf(nil, nil, 1, 2), nil), viewOf(nil, nil, 1, 2)},
		{impl.Permute(six, ints(5, 4, 3, 2, 1, 0)), viewOf(six.Dims, ints(1, 4, 16, 64, 256, 1024), 0, 4096)},
		{impl.Permute(v, ints(0, 1)), impl.View{}},
		{impl.Permute(v, nil), impl.View{}},
		{impl.Permute(v, ints(0, 1, 2, 0)), impl.View{}},
		{impl.Permute(v, ints(0, 1, 2, 3)), impl.View{}},
		{impl.Permute(v, ints(0, 1, 1)), impl.View{}},
		{impl.Permute(v, ints(0, 0, 0)), impl.View{}},
		{impl.Permute(v, ints(0, 1, 3)), impl.View{}},
		{impl.Permute(v, ints(-1, 0, 1)), impl.View{}},
		{impl.Permute(v, ints(0, 1, math.MinInt)), impl.View{}},
		{impl.Permute(v, ints(0, 1, math.MaxInt)), impl.View{}},
		{impl.Permute(viewOf(nil, nil, 1, 2), ints(0)), impl.View{}},
		{impl.Permute(v, make([]int, 1000)), impl.View{}},
		{impl.Permute(impl.View{}, nil), impl.View{}},
	})
}

func TestPermuteAgainstWords(t *testing.T) {
	source := rand.New(rand.NewSource(34))
	for _, v := range goodViews() {
		for range 20 {
			axes := source.Perm(len(v.Dims))
			checkPermute(t, v, axes)
			checkPermute(t, v, append(axes, len(axes)))
			if len(axes) > 0 {
				checkPermute(t, v, axes[1:])
				axes[source.Intn(len(axes))] = source.Intn(len(axes)+2) - 1
				checkPermute(t, v, axes)
			}
		}
	}
}

func TestSpreadRows(t *testing.T) {
	v := impl.Whole(ints(2, 3))
	lone := viewOf(ints(1, 3), ints(-4096, 1), 1, 4)
	point := viewOf(nil, nil, 2, 5)
	checkTurnCases(t, "Spread", []turnCase{
		{impl.Spread(v, ints(2, 3)), v},
		{impl.Spread(v, ints(4, 2, 3)), viewOf(ints(4, 2, 3), ints(0, 3, 1), 0, 6)},
		{impl.Spread(v, ints(1, 2, 3)), viewOf(ints(1, 2, 3), ints(0, 3, 1), 0, 6)},
		{impl.Spread(v, ints(5, 1, 1, 2, 2, 3)), viewOf(ints(5, 1, 1, 2, 2, 3), ints(0, 0, 0, 0, 3, 1), 0, 6)},
		{impl.Spread(lone, ints(1, 3)), lone}, // where both have 1 the stride stays
		{impl.Spread(lone, ints(2, 1, 3)), viewOf(ints(2, 1, 3), ints(0, -4096, 1), 1, 4)},
		{impl.Spread(lone, ints(7, 3)), viewOf(ints(7, 3), ints(0, 1), 1, 4)},
		{impl.Spread(lone, ints(1365, 3)), viewOf(ints(1365, 3), ints(0, 1), 1, 4)},
		{impl.Spread(lone, ints(1366, 3)), impl.View{}},
		{impl.Spread(point, nil), point},
		{impl.Spread(point, ints(4096)), viewOf(ints(4096), ints(0), 2, 5)},
		{impl.Spread(point, ints(1, 1, 1, 1, 1, 1)), viewOf(ints(1, 1, 1, 1, 1, 1), ints(0, 0, 0, 0, 0, 0), 2, 5)},
		{impl.Spread(point, ints(1, 1, 1, 1, 1, 1, 1)), impl.View{}},
		{impl.Spread(point, ints(4097)), impl.View{}},
		{impl.Spread(v, nil), impl.View{}},
		{impl.Spread(lone, nil), impl.View{}},
		{impl.Spread(v, ints(3)), impl.View{}},
		{impl.Spread(v, ints(2)), impl.View{}},
		{impl.Spread(v, ints(3, 2)), impl.View{}},
		{impl.Spread(v, ints(2, 3, 1)), impl.View{}},
		{impl.Spread(v, ints(1, 3)), impl.View{}},
		{impl.Spread(v, ints(4, 3)), impl.View{}},
		{impl.Spread(v, ints(2, 6)), impl.View{}},
		{impl.Spread(v, ints(0, 2, 3)), impl.View{}},
		{impl.Spread(lone, ints(0, 3)), impl.View{}},
		{impl.Spread(lone, ints(-1, 3)), impl.View{}},
		{impl.Spread(v, ints(math.MaxInt, 2, 3)), impl.View{}},
		{impl.Spread(v, ints(math.MinInt, 2, 3)), impl.View{}},
		{impl.Spread(v, make([]int, 1000)), impl.View{}},
		{impl.Spread(impl.View{}, nil), impl.View{}},
		{impl.Spread(impl.View{}, ints(2)), impl.View{}},
	})
}

func TestSpreadAgainstWords(t *testing.T) {
	source := rand.New(rand.NewSource(35))
	for _, v := range goodViews() {
		for range 20 {
			dims := slices.Clone(v.Dims)
			for axis, length := range dims {
				if length == 1 && source.Intn(3) == 0 {
					dims[axis] = 1 + source.Intn(3)
				}
			}
			for len(dims) < 7 && source.Intn(3) > 0 {
				dims = slices.Insert(dims, 0, 1+source.Intn(3))
			}
			checkSpread(t, v, dims)
			if len(dims) > 0 {
				checkSpread(t, v, dims[1:])
				checkSpread(t, v, replaced(dims, source.Intn(len(dims)), source.Intn(6)-1))
				checkSpread(t, v, replaced(dims, source.Intn(len(dims)), viewInts()[source.Intn(len(viewInts()))]))
			}
		}
	}
}

func TestWindowsRows(t *testing.T) {
	v := impl.Whole(ints(2, 7))
	back := viewOf(ints(7, 2), ints(-2, 1), 12, 14)
	lone := viewOf(ints(1), ints(4096), 2, 3)
	line := impl.Whole(ints(4096))
	six := impl.Whole(ints(2, 2, 2, 2, 2, 2))
	checkTurnCases(t, "Windows", []turnCase{
		{impl.Windows(v, 1, 3, 1), viewOf(ints(2, 5, 3), ints(7, 1, 1), 0, 14)},
		{impl.Windows(v, 1, 3, 2), viewOf(ints(2, 3, 3), ints(7, 2, 1), 0, 14)},
		{impl.Windows(v, 1, 3, 3), viewOf(ints(2, 2, 3), ints(7, 3, 1), 0, 14)}, // a rest of one
		{impl.Windows(v, 1, 2, 4), viewOf(ints(2, 2, 2), ints(7, 4, 1), 0, 14)}, // and of one between
		{impl.Windows(v, 1, 1, 1), viewOf(ints(2, 7, 1), ints(7, 1, 0), 0, 14)},
		{impl.Windows(v, 1, 1, 6), viewOf(ints(2, 2, 1), ints(7, 6, 0), 0, 14)},
		{impl.Windows(v, 1, 1, 7), viewOf(ints(2, 1, 1), ints(7, 0, 0), 0, 14)},
		{impl.Windows(v, 1, 7, 1), viewOf(ints(2, 1, 7), ints(7, 0, 1), 0, 14)},
		{impl.Windows(v, 1, 7, math.MaxInt), viewOf(ints(2, 1, 7), ints(7, 0, 1), 0, 14)},
		{impl.Windows(v, 1, 3, 5), viewOf(ints(2, 1, 3), ints(7, 0, 1), 0, 14)},
		{impl.Windows(v, 1, 3, math.MaxInt), viewOf(ints(2, 1, 3), ints(7, 0, 1), 0, 14)},
		{impl.Windows(v, 0, 2, 1), viewOf(ints(1, 7, 2), ints(0, 1, 7), 0, 14)},
		{impl.Windows(back, 0, 3, 2), viewOf(ints(3, 2, 3), ints(-4, 1, -2), 12, 14)},
		{impl.Windows(lone, 0, 1, 1), viewOf(ints(1, 1), ints(0, 0), 2, 3)},
		{impl.Windows(line, 0, 4096, 1), viewOf(ints(1, 4096), ints(0, 1), 0, 4096)},
		{impl.Windows(line, 0, 1, 1), viewOf(ints(4096, 1), ints(1, 0), 0, 4096)},
		{impl.Windows(line, 0, 64, 64), viewOf(ints(64, 64), ints(64, 1), 0, 4096)},
		{impl.Windows(line, 0, 64, 63), impl.View{}}, // 65 windows of 64
		{impl.Windows(line, 0, 2, 1), impl.View{}},
		{impl.Windows(six, 0, 1, 1), impl.View{}},
		{impl.Windows(v, 1, 8, 1), impl.View{}},
		{impl.Windows(v, 1, 0, 1), impl.View{}},
		{impl.Windows(v, 1, -1, 1), impl.View{}},
		{impl.Windows(v, 1, 3, 0), impl.View{}},
		{impl.Windows(v, 1, 3, -1), impl.View{}},
		{impl.Windows(v, 1, math.MaxInt, 1), impl.View{}},
		{impl.Windows(v, 1, math.MinInt, 1), impl.View{}},
		{impl.Windows(v, 1, 3, math.MinInt), impl.View{}},
		{impl.Windows(v, 2, 1, 1), impl.View{}},
		{impl.Windows(v, -1, 1, 1), impl.View{}},
		{impl.Windows(v, math.MinInt, 1, 1), impl.View{}},
		{impl.Windows(viewOf(nil, nil, 0, 1), 0, 1, 1), impl.View{}},
		{impl.Windows(impl.View{}, 0, 1, 1), impl.View{}},
	})
}

func TestWindowsAgainstWords(t *testing.T) {
	source := rand.New(rand.NewSource(36))
	edges := viewInts()
	edge := func() int { return edges[source.Intn(len(edges))] }
	for _, v := range goodViews() {
		for range 40 {
			checkWindows(t, v, edge(), edge(), edge())
			checkWindows(t, v, source.Intn(8)-1, source.Intn(6)-1, source.Intn(6)-1)
			checkWindows(t, v, source.Intn(8)-1, source.Intn(6)-1, edge())
			checkWindows(t, v, source.Intn(8)-1, edge(), source.Intn(6)-1)
		}
	}
	for length := 1; length <= 9; length++ {
		v := fitted(ints(2, length), ints(1, -3), 1, 1)
		for size := -1; size <= 10; size++ {
			for step := -1; step <= 10; step++ {
				checkWindows(t, v, 1, size, step)
			}
		}
	}
}

func TestDiagonalRows(t *testing.T) {
	v := impl.Whole(ints(3, 4, 5))
	lone := viewOf(ints(1, 3, 1), ints(4096, 1, 4096), 0, 3)
	line := impl.Whole(ints(4096, 1))
	checkTurnCases(t, "Diagonal", []turnCase{
		{impl.Diagonal(v, 0, 1), viewOf(ints(5, 3), ints(1, 25), 0, 60)},
		{impl.Diagonal(v, 1, 0), viewOf(ints(5, 3), ints(1, 25), 0, 60)},
		{impl.Diagonal(v, 0, 2), viewOf(ints(4, 3), ints(5, 21), 0, 60)},
		{impl.Diagonal(v, 2, 1), viewOf(ints(3, 4), ints(20, 6), 0, 60)},
		{impl.Diagonal(lone, 0, 1), viewOf(ints(1, 1), ints(4096, 0), 0, 3)},
		{impl.Diagonal(lone, 0, 2), viewOf(ints(3, 1), ints(1, 0), 0, 3)},
		{impl.Diagonal(line, 0, 1), viewOf(ints(1), ints(0), 0, 4096)},
		{impl.Diagonal(viewOf(ints(3, 3), ints(1, -1), 2, 5), 0, 1), viewOf(ints(3), ints(0), 2, 5)},
		{impl.Diagonal(viewOf(ints(2, 2), ints(2047, 2048), 0, 4096), 0, 1), viewOf(ints(2), ints(4095), 0, 4096)},
		{impl.Diagonal(v, 1, 1), impl.View{}},
		{impl.Diagonal(v, 0, 3), impl.View{}},
		{impl.Diagonal(v, 3, 0), impl.View{}},
		{impl.Diagonal(v, -1, 0), impl.View{}},
		{impl.Diagonal(v, 0, -1), impl.View{}},
		{impl.Diagonal(v, -1, -1), impl.View{}},
		{impl.Diagonal(v, math.MinInt, math.MaxInt), impl.View{}},
		{impl.Diagonal(impl.Whole(ints(3)), 0, 0), impl.View{}},
		{impl.Diagonal(impl.Whole(ints(3)), 0, 1), impl.View{}},
		{impl.Diagonal(viewOf(nil, nil, 0, 1), 0, 1), impl.View{}},
		{impl.Diagonal(impl.View{}, 0, 1), impl.View{}},
	})
}

func TestDiagonalAgainstWords(t *testing.T) {
	for _, v := range goodViews() {
		for a := -1; a <= 7; a++ {
			for b := -1; b <= 7; b++ {
				checkDiagonal(t, v, a, b)
			}
		}
	}
}

// P7: a whole view can be reshaped to all dims of its product, and back.
func TestWholeIsReshapedToAllDims(t *testing.T) {
	for _, size := range []int{1, 2, 3, 4, 6, 8, 9, 12} {
		all := dimsOf(size)
		for _, from := range all {
			for _, to := range all {
				checkReshapeOfWhole(t, from, to)
			}
		}
	}
	for _, size := range []int{5, 36, 64, 210, 1024, 4095, 4096} {
		for i, to := range dimsOf(size) {
			if size < 1024 || i%20 == 0 {
				checkReshapeOfWhole(t, ints(size), to)
				checkReshapeOfWhole(t, to, ints(size))
			}
		}
	}
}

func checkReshapeOfWhole(t *testing.T, from []int, to []int) {
	t.Helper()
	there := impl.Reshape(impl.Whole(from), to)
	if !sameView(there, impl.Whole(to)) {
		t.Fatalf("Reshape(Whole(%v), %v) = %v", from, to, there)
	}
	if back := impl.Reshape(there, from); !sameView(back, impl.Whole(from)) {
		t.Fatalf("Whole(%v) by way of %v comes back as %v", from, to, back)
	}
}

// P7: a reshaped view has the places it had.
func TestReshapedHasThePlacesItHad(t *testing.T) {
	made, none := 0, 0
	views := goodViews()
	for _, v := range someViews(150, 37) {
		views = append(views, v, impl.Slice(v, 0, 0, 1, 1), impl.Reshape(v, v.Dims))
	}
	for _, v := range views {
		places, ok := wantPlaces(v)
		if !ok || len(places) > 100 {
			continue
		}
		for _, dims := range dimsOf(len(places)) {
			w := impl.Reshape(v, dims)
			if isNoView(w) {
				none++
				continue
			}
			made++
			checkReshaped(t, v, dims, w)
		}
	}
	if made < 1000 || none < 1000 {
		t.Errorf("only %d could be reshaped and %d could not", made, none)
	}
}

func checkReshaped(t *testing.T, v impl.View, dims []int, w impl.View) {
	t.Helper()
	before, _ := wantPlaces(v)
	after, ok := wantPlaces(w)
	if !ok || !slices.Equal(before, after) || !slices.Equal(w.Dims, dims) || w.Base != v.Base {
		t.Fatalf("Reshape(%v, %v) = %v", v, dims, w)
	}
	for axis, length := range dims {
		if length == 1 && w.Strides[axis] != 0 {
			t.Fatalf("Reshape(%v, %v) = %v: no stride of 0 at length 1", v, dims, w)
		}
	}
	if again := impl.Reshape(w, v.Dims); isNoView(again) || !slices.Equal(impl.Places(again), before) {
		t.Fatalf("Reshape(%v, %v) = %v can't be brought back", v, dims, w)
	}
}

// searchReshape tries all strides: is there a view with these dims and places?
// (The first index is all noughts, so that Offset is the first place.)
func searchReshape(dims []int, base int, places []int) bool {
	var try func(strides []int) bool
	try = func(strides []int) bool {
		if len(strides) == len(dims) {
			got, ok := wantPlaces(viewOf(dims, strides, places[0], base))
			return ok && slices.Equal(got, places)
		}
		if dims[len(strides)] == 1 {
			return try(append(strides, 0))
		}
		for stride := 1 - base; stride < base; stride++ {
			if try(append(strides, stride)) {
				return true
			}
		}
		return false
	}
	return try(make([]int, 0, len(dims)))
}

// eights gives views of eight indexes, with one to three axes.
func eights() []impl.View {
	var out []impl.View
	for a := -2; a <= 2; a++ {
		for b := -2; b <= 2; b++ {
			for c := -2; c <= 2; c++ {
				out = append(out, fitted(ints(2, 2, 2), ints(a, b, c), 0, 0))
			}
			out = append(out, fitted(ints(2, 4), ints(a, b), 0, 0), fitted(ints(4, 2), ints(a, b), 0, 0))
		}
	}
	return append(out, fitted(ints(8), ints(1), 0, 0), fitted(ints(8), ints(-1), 0, 0))
}

func TestReshapeAgainstSearch(t *testing.T) {
	found, none := 0, 0
	for i, v := range slices.Concat(smallViews(), eights()) {
		places, ok := wantPlaces(v)
		if !ok || len(places) < 8 && i%5 > 0 {
			continue
		}
		for _, dims := range dimsOf(len(places)) {
			if len(dims) > 3 {
				continue
			}
			want := searchReshape(dims, v.Base, places)
			if got := !isNoView(impl.Reshape(v, dims)); got != want {
				t.Errorf("Reshape(%v, %v): %v, but the search says %v", v, dims, got, want)
			}
			if want {
				found++
			} else {
				none++
			}
		}
	}
	if found < 500 || none < 500 {
		t.Errorf("only %d could be reshaped and %d could not", found, none)
	}
}

func TestReshapeRows(t *testing.T) {
	v := impl.Whole(ints(4, 6))
	turned := impl.Permute(v, ints(1, 0))
	rows := impl.Slice(v, 1, 0, 3, 2)
	back := viewOf(ints(4, 6), ints(-6, -1), 23, 24)
	still := viewOf(ints(2, 3), ints(0, 0), 4, 9)
	spread := impl.Spread(impl.Whole(ints(3)), ints(2, 3))
	lone := viewOf(ints(1, 4, 1), ints(4096, 2, -4096), 1, 9)
	point := viewOf(nil, nil, 2, 5)
	checkTurnCases(t, "Reshape", []turnCase{
		{impl.Reshape(v, ints(24)), viewOf(ints(24), ints(1), 0, 24)},
		{impl.Reshape(v, ints(2, 2, 2, 3)), viewOf(ints(2, 2, 2, 3), ints(12, 6, 3, 1), 0, 24)},
		{impl.Reshape(turned, ints(6, 2, 2)), viewOf(ints(6, 2, 2), ints(1, 12, 6), 0, 24)},
		{impl.Reshape(turned, ints(2, 3, 4)), viewOf(ints(2, 3, 4), ints(3, 1, 6), 0, 24)},
		{impl.Reshape(turned, ints(24)), impl.View{}},
		{impl.Reshape(turned, ints(4, 6)), impl.View{}},
		{impl.Reshape(rows, ints(12)), viewOf(ints(12), ints(2), 0, 24)},
		{impl.Reshape(rows, ints(6, 2)), viewOf(ints(6, 2), ints(4, 2), 0, 24)},
		{impl.Reshape(impl.Slice(v, 1, 0, 4, 1), ints(16)), impl.View{}},
		{impl.Reshape(impl.Slice(v, 1, 0, 4, 1), ints(2, 2, 2, 2)), viewOf(ints(2, 2, 2, 2), ints(12, 6, 2, 1), 0, 24)},
		{impl.Reshape(impl.Slice(v, 1, 0, 4, 1), ints(8, 2)), impl.View{}},
		{impl.Reshape(back, ints(24)), viewOf(ints(24), ints(-1), 23, 24)},
		{impl.Reshape(back, ints(8, 3)), viewOf(ints(8, 3), ints(-3, -1), 23, 24)},
		{impl.Reshape(still, ints(3, 2)), viewOf(ints(3, 2), ints(0, 0), 4, 9)},
		{impl.Reshape(still, ints(6)), viewOf(ints(6), ints(0), 4, 9)},
		{impl.Reshape(spread, ints(2, 1, 3)), viewOf(ints(2, 1, 3), ints(0, 0, 1), 0, 3)},
		{impl.Reshape(spread, ints(6)), impl.View{}},
		{impl.Reshape(spread, ints(3, 2)), impl.View{}},
		{impl.Reshape(lone, ints(4)), viewOf(ints(4), ints(2), 1, 9)},
		{impl.Reshape(lone, ints(1, 4, 1)), viewOf(ints(1, 4, 1), ints(0, 2, 0), 1, 9)},
		{impl.Reshape(lone, ints(1, 2, 1, 2, 1, 1)), viewOf(ints(1, 2, 1, 2, 1, 1), ints(0, 4, 0, 2, 0, 0), 1, 9)},
		{impl.Reshape(point, nil), point},
		{impl.Reshape(point, ints(1)), viewOf(ints(1), ints(0), 2, 5)},
		{impl.Reshape(point, ints(1, 1, 1, 1, 1, 1)), viewOf(ints(1, 1, 1, 1, 1, 1), ints(0, 0, 0, 0, 0, 0), 2, 5)},
		{impl.Reshape(viewOf(ints(1, 1), ints(7, -7), 2, 5), nil), point},
		{impl.Reshape(viewOf(ints(2, 3), ints(5, 1), 0, 8), ints(3, 2)), impl.View{}},
		// strides that are right at first and would leave the list, or that list, further on
		{impl.Reshape(viewOf(ints(2, 2), ints(3, 1), 0, 5), ints(4)), impl.View{}},
		{impl.Reshape(viewOf(ints(3, 2), ints(1, 5), 0, 8), ints(6)), impl.View{}},
		{impl.Reshape(viewOf(ints(2, 2), ints(-3, -1), 4, 5), ints(4)), impl.View{}},
		{impl.Reshape(impl.Whole(ints(4096)), ints(64, 64)), impl.Whole(ints(64, 64))},
		{impl.Reshape(v, ints(25)), impl.View{}},
		{impl.Reshape(v, ints(23)), impl.View{}},
		{impl.Reshape(v, ints(4, 6, 2)), impl.View{}},
		{impl.Reshape(v, nil), impl.View{}},
		{impl.Reshape(v, ints(24, 1, 1, 1, 1, 1)), viewOf(ints(24, 1, 1, 1, 1, 1), ints(1, 0, 0, 0, 0, 0), 0, 24)},
		{impl.Reshape(v, ints(24, 1, 1, 1, 1, 1, 1)), impl.View{}},
		{impl.Reshape(v, ints(-4, -6)), impl.View{}},
		{impl.Reshape(v, ints(0)), impl.View{}},
		{impl.Reshape(v, ints(math.MinInt)), impl.View{}},
		{impl.Reshape(v, ints(math.MaxInt, 2)), impl.View{}},
		{impl.Reshape(v, make([]int, 1000)), impl.View{}},
		{impl.Reshape(impl.View{}, nil), impl.View{}},
		{impl.Reshape(impl.View{}, ints(1)), impl.View{}},
	})
}

func TestTurnsOfWrongViews(t *testing.T) {
	for _, v := range wrongViews() {
		var axes []int
		for axis := range v.Dims {
			axes = append(axes, axis)
		}
		got := []impl.View{impl.Permute(v, axes), impl.Permute(v, nil)}
		for _, dims := range [][]int{v.Dims, v.Strides, append(ints(1), v.Dims...), nil, ints(1), ints(2), ints(2, 3), ints(6)} {
			got = append(got, impl.Spread(v, dims), impl.Reshape(v, dims))
		}
		for a := -1; a <= 2; a++ {
			for b := -1; b <= 2; b++ {
				got = append(got, impl.Slice(v, a, b, 1, 1), impl.Slice(v, a, 0, 1, b), impl.Slice(v, a, 0, 2, b))
				got = append(got, impl.Windows(v, a, 1, b), impl.Windows(v, a, b, 1), impl.Diagonal(v, a, b))
			}
		}
		for i, w := range got {
			if !isNoView(w) {
				t.Errorf("a turn of %v (%d) is %v", v, i, w)
			}
		}
	}
}

// A view of a view shows what the one shows of what the other shows: turned
// twice, the places are those of the places.
func TestTurnsOfTurns(t *testing.T) {
	v := impl.Whole(ints(3, 4, 5))
	w := impl.Windows(impl.Permute(impl.Slice(v, 2, 4, 3, -2), ints(2, 0, 1)), 2, 2, 2)
	if !sameView(w, viewOf(ints(3, 3, 2, 2), ints(-2, 20, 10, 5), 4, 60)) {
		t.Errorf("Windows of Permute of Slice = %v", w)
	}
	d := impl.Diagonal(w, 2, 3)
	if !sameView(d, viewOf(ints(3, 3, 2), ints(-2, 20, 15), 4, 60)) {
		t.Errorf("Diagonal of these = %v", d)
	}
}

func TestJoint(t *testing.T) {
	six := ints(2, 2, 2, 2, 2, 2)
	rows := []struct{ a, b, want []int }{
		{nil, nil, nil}, {nil, ints(3), ints(3)}, {ints(2, 3), nil, ints(2, 3)}, {ints(2, 3), ints(2, 3), ints(2, 3)},
		{ints(2, 3), ints(3), ints(2, 3)}, {ints(3), ints(2, 3), ints(2, 3)}, {ints(1), ints(7), ints(7)}, {ints(7), ints(1), ints(7)},
		{ints(1), ints(1), ints(1)}, {ints(2, 1), ints(1, 3), ints(2, 3)}, {ints(2, 1, 4), ints(3, 1), ints(2, 3, 4)}, {ints(1, 1), ints(5), ints(1, 5)},
		{ints(1), six, six}, {six, six, six}, {nil, six, six}, {ints(1, 2), ints(1), ints(1, 2)},
		{ints(1, 1, 1, 1, 1, 1), ints(3, 1), ints(1, 1, 1, 1, 3, 1)}, {ints(4096, 1), ints(1), ints(4096, 1)}, {ints(64, 1), ints(1, 64), ints(64, 64)},
		{ints(2, 3), ints(2), nil}, {ints(2), ints(3), nil}, {ints(2, 3), ints(3, 2), nil}, {ints(2, 3, 4), ints(2, 4), nil}, {ints(4), ints(2), nil},
		{ints(64, 1), ints(1, 65), nil}, {ints(65, 1), ints(64), nil}, {ints(4096), ints(2, 1), nil}, {ints(2, 1), ints(4096), nil}, {ints(4096, 1), ints(4096), nil},
		{ints(0), ints(1), nil}, {ints(1), ints(0), nil}, {ints(0), ints(0), nil}, {ints(-1), ints(1), nil}, {ints(-1), ints(-1), nil}, {nil, ints(0), nil},
		{ints(4097), ints(4097), nil}, {ints(4097), nil, nil}, {nil, ints(64, 65), nil}, {ints(math.MaxInt), ints(1), nil}, {ints(1), ints(math.MinInt), nil},
		{ints(1, 1, 1, 1, 1, 1, 1), nil, nil}, {ints(1), ints(1, 1, 1, 1, 1, 1, 1), nil}, {make([]int, 1000), ints(1), nil},
	}
	for _, row := range rows {
		if got := impl.Joint(row.a, row.b); !slices.Equal(got, row.want) {
			t.Errorf("Joint(%v, %v) = %v, not %v", row.a, row.b, got, row.want)
		}
	}
}

// wantJoint goes by the rank: the lengths from behind, one by one.
func wantJoint(a []int, b []int) []int {
	if !wantDims(a) || !wantDims(b) {
		return nil
	}
	var out []int
	for back := 1; back <= max(len(a), len(b)); back++ {
		x, y := 1, 1
		if back <= len(a) {
			x = a[len(a)-back]
		}
		if back <= len(b) {
			y = b[len(b)-back]
		}
		if x != y && min(x, y) != 1 {
			return nil
		}
		out = slices.Insert(out, 0, max(x, y))
	}
	if !wantDims(out) {
		return nil
	}
	return out
}

func TestJointAgainstWords(t *testing.T) {
	source := rand.New(rand.NewSource(39))
	lengths := []int{1, 1, 1, 1, 2, 2, 3, 64, -1, 0, 4096}
	list := func() []int {
		out := make([]int, source.Intn(8))
		for i := range out {
			out[i] = lengths[min(source.Intn(40), source.Intn(len(lengths)))]
		}
		return out
	}
	found := 0
	for range 40000 {
		a, b := list(), list()
		want := wantJoint(a, b)
		if got := impl.Joint(a, b); !slices.Equal(got, want) {
			t.Fatalf("Joint(%v, %v) = %v, not %v", a, b, got, want)
		}
		if len(want) == 0 {
			continue
		}
		found++
		for _, dims := range [][]int{a, b} {
			if isNoView(impl.Spread(impl.Whole(dims), want)) {
				t.Fatalf("%v can't be spread to Joint(%v, %v)", dims, a, b)
			}
		}
	}
	if found < 500 {
		t.Errorf("only %d joints", found)
	}
}

// smallViews gives all views of rank 0 to 2 with lengths of at most 3, strides
// of at most 3 and a Base of at most 4, and those one step beyond.
func smallViews() []impl.View {
	var out []impl.View
	for base := 0; base <= 4; base++ {
		for offset := -1; offset <= base; offset++ {
			out = append(out, viewOf(nil, nil, offset, base))
			for a := 0; a <= 3; a++ {
				for s := -3; s <= 3; s++ {
					out = append(out, viewOf(ints(a), ints(s), offset, base))
					for b := 1; b <= 3; b++ {
						for r := -3; r <= 3; r++ {
							out = append(out, viewOf(ints(a, b), ints(s, r), offset, base))
						}
					}
				}
			}
		}
	}
	return out
}

// wantTwice asks all pairs of indexes.
func wantTwice(v impl.View) bool {
	places, ok := wantPlaces(v)
	for i, place := range places {
		if ok && slices.Contains(places[:i], place) {
			return true
		}
	}
	return false
}

// P8: Twice says just what the places say.
func TestTwiceSaysWhatPlacesSay(t *testing.T) {
	views := slices.Concat(smallViews(), goodViews(), wrongViews(), someViews(500, 40))
	yes, no := 0, 0
	for _, v := range views {
		want := wantTwice(v)
		if got := impl.Twice(v); got != want {
			t.Fatalf("Twice(%v) is not %v", v, want)
		}
		if want {
			yes++
		} else {
			no++
		}
	}
	if yes < 100 || no < 100 {
		t.Errorf("only %d with a place twice and %d without", yes, no)
	}
}

func TestTwiceRows(t *testing.T) {
	rows := []struct {
		v    impl.View
		want bool
	}{
		{impl.Whole(ints(4096)), false}, {impl.Whole(ints(4, 4, 4, 4, 4, 4)), false}, {viewOf(nil, nil, 0, 1), false},
		{viewOf(ints(2), ints(0), 0, 1), true}, {viewOf(ints(1), ints(0), 0, 1), false}, {viewOf(ints(4096), ints(0), 0, 1), true},
		{viewOf(ints(1, 1), ints(0, 0), 0, 1), false}, {viewOf(ints(1, 2), ints(1, 0), 0, 1), true}, {viewOf(ints(2, 1), ints(1, 0), 0, 2), false},
		{viewOf(ints(2, 2), ints(1, 1), 0, 3), true}, {viewOf(ints(2, 2), ints(1, -1), 1, 3), true}, {viewOf(ints(2, 2), ints(2, 1), 0, 4), false},
		{viewOf(ints(3, 3), ints(2, 1), 0, 7), true}, {viewOf(ints(2, 3), ints(2, 3), 0, 9), false}, {viewOf(ints(4, 3), ints(2, 3), 0, 13), true},
		{viewOf(ints(3, 2), ints(2, 3), 0, 8), false}, {viewOf(ints(3, 2), ints(-2, 5), 4, 10), false}, {viewOf(ints(3, 2), ints(-2, 4), 4, 9), true},
		{viewOf(ints(2, 2, 2), ints(1, 2, 3), 0, 7), true}, {viewOf(ints(2, 2, 2), ints(1, 2, 4), 0, 8), false}, {viewOf(ints(2, 2, 2), ints(1, 2, -4), 4, 8), false},
		{impl.Windows(impl.Whole(ints(5)), 0, 2, 1), true}, {impl.Windows(impl.Whole(ints(5)), 0, 2, 2), false}, {impl.Windows(impl.Whole(ints(5)), 0, 2, 3), false},
		{viewOf(ints(2, 2048), ints(2048, 1), 0, 4096), false}, {viewOf(ints(2, 2048), ints(2047, 1), 0, 4096), true},
		{impl.View{}, false}, {viewOf(ints(2), ints(0), 1, 1), false}, {viewOf(ints(2), ints(0), 0, 0), false}, {viewOf(ints(2, 2), ints(0), 0, 4), false},
		{viewOf(ints(4097), ints(0), 0, 1), false}, {viewOf(ints(2), ints(0), math.MinInt, 1), false}, {viewOf(ints(2), ints(0), math.MaxInt, 4096), false},
		{viewOf(ints(2), ints(0), 0, 4097), false}, {viewOf(ints(2, 2), ints(0, 4097), 0, 4096), false},
	}
	for _, row := range rows {
		if got := impl.Twice(row.v); got != row.want {
			t.Errorf("Twice(%v) = %v", row.v, got)
		}
	}
}

func wantMeet(v impl.View, w impl.View, seen []int, other []int) bool {
	if v.Base != w.Base {
		return false
	}
	for _, place := range other {
		if slices.Contains(seen, place) {
			return true
		}
	}
	return false
}

// P8: Meet says just what the places say.
func TestMeetSaysWhatPlacesSay(t *testing.T) {
	views := slices.Concat(edgeViews(), wrongViews(), someViews(150, 42))
	for i, v := range smallViews() {
		if _, ok := wantPlaces(v); ok || i%50 == 0 {
			views = append(views, v)
		}
	}
	places := make([][]int, len(views))
	for i, v := range views {
		places[i], _ = wantPlaces(v)
	}
	yes, no := 0, 0
	for i, v := range views {
		for j, w := range views {
			want := wantMeet(v, w, places[i], places[j])
			if got := impl.Meet(v, w); got != want {
				t.Fatalf("Meet(%v, %v) is not %v", v, w, want)
			}
			if want {
				yes++
			} else if len(places[i]) > 0 && len(places[j]) > 0 && v.Base == w.Base {
				no++
			}
		}
	}
	if yes < 1000 || no < 1000 {
		t.Errorf("only %d that meet and %d that do not", yes, no)
	}
}

func TestMeetRows(t *testing.T) {
	line := impl.Whole(ints(12))
	evens, odds := impl.Slice(line, 0, 0, 6, 2), impl.Slice(line, 0, 1, 6, 2)
	long := impl.Whole(ints(4096))
	rows := []struct {
		v, w impl.View
		want bool
	}{
		{line, line, true}, {evens, odds, false}, {evens, evens, true}, {line, odds, true},
		{evens, impl.Slice(line, 0, 3, 3, 3), true},  // 3, 6, 9
		{evens, impl.Slice(line, 0, 3, 2, 6), false}, // 3, 9
		{evens, impl.Slice(line, 0, 9, 2, -8), false},
		{impl.Slice(line, 0, 0, 6, 1), impl.Slice(line, 0, 5, 7, 1), true}, // the one at 5
		{impl.Slice(line, 0, 0, 5, 1), impl.Slice(line, 0, 5, 7, 1), false},
		{impl.Slice(line, 0, 11, 1, 1), impl.Slice(line, 0, 11, 12, -1), true},
		{viewOf(nil, nil, 3, 12), line, true}, {viewOf(nil, nil, 3, 12), evens, false}, {viewOf(nil, nil, 3, 12), viewOf(nil, nil, 3, 12), true},
		{viewOf(ints(2, 3), ints(6, 2), 0, 12), viewOf(ints(2, 3), ints(6, 2), 1, 12), false},
		{viewOf(ints(2, 2), ints(6, 1), 0, 12), viewOf(ints(2, 2), ints(5, 0), 2, 12), true}, // 0 1 6 7 and 2 7
		{line, impl.Whole(ints(13)), false}, {line, viewOf(ints(12), ints(1), 0, 13), false}, {viewOf(nil, nil, 0, 1), viewOf(nil, nil, 0, 2), false},
		{viewOf(nil, nil, 0, 1), viewOf(nil, nil, 0, 1), true}, {long, viewOf(ints(1), ints(0), 4095, 4096), true},
		{impl.Slice(long, 0, 0, 4095, 1), viewOf(ints(1), ints(0), 4095, 4096), false},
		{viewOf(ints(4096), ints(0), 0, 4096), viewOf(ints(4095), ints(1), 1, 4096), false},
		{impl.View{}, impl.View{}, false}, {line, impl.View{}, false}, {impl.View{}, line, false},
		{line, viewOf(ints(13), ints(1), 0, 12), false}, {viewOf(ints(13), ints(1), 0, 12), line, false}, {line, viewOf(ints(12), ints(1), -1, 12), false},
		{viewOf(nil, nil, 0, 4097), viewOf(nil, nil, 0, 4097), false}, {viewOf(nil, nil, 0, 0), viewOf(nil, nil, 0, 0), false},
		{viewOf(nil, nil, 0, -1), viewOf(nil, nil, 0, -1), false}, {viewOf(ints(1), ints(4097), 0, 12), line, false},
		{line, viewOf(nil, nil, math.MaxInt, 12), false}, {viewOf(nil, nil, math.MinInt, 12), line, false}, {viewOf(ints(2), nil, 0, 12), line, false},
	}
	for _, row := range rows {
		if got := impl.Meet(row.v, row.w); got != row.want {
			t.Errorf("Meet(%v, %v) = %v", row.v, row.w, got)
		}
	}
}

// spare gives the list with room behind it, which nobody may write into.
func spare(list []int) []int {
	room := append(slices.Clone(list), 91, 92, 93, 94, 95, 96, 97, 98)
	return room[:len(list)]
}

func spareView(v impl.View) impl.View {
	v.Dims, v.Strides = spare(v.Dims), spare(v.Strides)
	return v
}

func scribble(list []int) {
	list = list[:cap(list)]
	for i := range list {
		list[i] = -77
	}
}

// checkAlone calls twice with the same arguments, and writes over all of the
// first answer's lists: neither the arguments nor the second may have changed,
// nor may one list of an answer stand in another's memory.
func checkAlone(t *testing.T, name string, lists [][]int, call func(lists [][]int) [][]int) {
	t.Helper()
	var given, whole [][]int
	for _, list := range lists {
		list = spare(list)
		given = append(given, list)
		whole = append(whole, slices.Clone(list[:cap(list)]))
	}
	unchanged := func() {
		t.Helper()
		for i, list := range given {
			if !slices.Equal(list[:cap(list)], whole[i]) {
				t.Fatalf("%s: argument %d has changed: %v, not %v", name, i, list[:cap(list)], whole[i])
			}
		}
	}
	first := call(given)
	unchanged()
	second := call(given)
	for i, list := range first {
		scribble(list)
		for j, other := range first[i+1:] {
			if !slices.Equal(other, second[i+1+j]) {
				t.Fatalf("%s: lists %d and %d of the answer share memory", name, i, i+1+j)
			}
		}
	}
	unchanged()
	kept := make([][]int, len(second))
	for i, list := range second {
		kept[i] = slices.Clone(list)
	}
	for _, list := range given {
		scribble(list)
	}
	for i, list := range second {
		if !slices.Equal(list, kept[i]) {
			t.Fatalf("%s: list %d of the answer was the argument's", name, i)
		}
	}
}

func TestViewListsAreLeftAlone(t *testing.T) {
	turns := map[string]func(v impl.View, list []int) impl.View{
		"Slice":     func(v impl.View, _ []int) impl.View { return impl.Slice(v, 0, v.Dims[0]-1, 1, 1) },
		"Slice all": func(v impl.View, _ []int) impl.View { return impl.Slice(v, 0, 0, v.Dims[0], 1) },
		"Permute":   func(v impl.View, list []int) impl.View { return impl.Permute(v, list[:len(v.Dims)]) },
		"Spread":    func(v impl.View, _ []int) impl.View { return impl.Spread(v, v.Dims) },
		"Reshape":   func(v impl.View, _ []int) impl.View { return impl.Reshape(v, v.Dims) },
		"Windows":   func(v impl.View, _ []int) impl.View { return impl.Windows(v, 0, 1, 1) },
		"Diagonal":  func(v impl.View, _ []int) impl.View { return impl.Diagonal(v, 0, 1) },
		"Whole":     func(v impl.View, _ []int) impl.View { return impl.Whole(v.Dims) },
	}
	for _, v := range goodViews() {
		if len(v.Dims) < 2 {
			continue
		}
		lists := [][]int{v.Dims, v.Strides, ints(0, 1, 2, 3, 4, 5)}
		for name, turn := range turns {
			checkAlone(t, name, lists, func(given [][]int) [][]int {
				w := turn(viewOf(given[0], given[1], v.Offset, v.Base), given[2])
				return [][]int{w.Dims, w.Strides}
			})
		}
		checkAlone(t, "Places", lists, func(given [][]int) [][]int {
			return [][]int{impl.Places(viewOf(given[0], given[1], v.Offset, v.Base))}
		})
		checkAlone(t, "Joint", lists, func(given [][]int) [][]int {
			return [][]int{impl.Joint(given[0], given[0]), impl.Joint(given[0], nil), impl.Joint(given[0][1:], given[0])}
		})
		checkAlone(t, "the asking ones", lists, func(given [][]int) [][]int {
			w := viewOf(given[0], given[1], v.Offset, v.Base)
			impl.DimsOk(w.Dims)
			impl.SizeOf(w.Dims)
			impl.ViewOk(w)
			impl.Twice(w)
			impl.Meet(w, w)
			impl.Place(w, given[2])
			return nil
		})
	}
}

func TestSpreadAndReshapeKeepNoDims(t *testing.T) {
	v := impl.Whole(ints(2, 3))
	checkAlone(t, "Spread", [][]int{ints(4, 2, 3)}, func(given [][]int) [][]int {
		w := impl.Spread(v, given[0])
		return [][]int{w.Dims, w.Strides}
	})
	checkAlone(t, "Reshape", [][]int{ints(3, 1, 2)}, func(given [][]int) [][]int {
		w := impl.Reshape(v, given[0])
		return [][]int{w.Dims, w.Strides}
	})
	checkAlone(t, "Permute", [][]int{ints(1, 0)}, func(given [][]int) [][]int {
		w := impl.Permute(v, given[0])
		return [][]int{w.Dims, w.Strides}
	})
}

// What lies behind a list's length is not read: with room behind them that
// would be right, lists that are too short are wrong.
func TestRoomBehindListsIsNotRead(t *testing.T) {
	dims, strides, axes := ints(2, 3, 4), ints(12, 4, 1), ints(1, 0, 2)
	v := viewOf(dims[:2], strides[:1], 0, 24)
	if impl.ViewOk(v) || impl.Place(v, ints(0, 0)) != -1 || len(impl.Places(v)) != 0 {
		t.Error("a stride was read behind the list")
	}
	w := viewOf(dims[:2], strides[:2], 0, 24)
	if !sameView(impl.Permute(w, axes[:2]), viewOf(ints(3, 2), ints(4, 12), 0, 24)) || !isNoView(impl.Permute(w, axes[:1])) {
		t.Error("an axis was read behind the list")
	}
	if got := impl.Windows(spareView(w), 1, 2, 1); !sameView(got, viewOf(ints(2, 2, 2), ints(12, 4, 4), 0, 24)) {
		t.Errorf("Windows of a view with room behind its lists = %v", got)
	}
}

package tests

import (
	"math"
	"math/big"
	"math/rand"
	"slices"
	"testing"

	"loop.example/g00033/impl"
)

// overExact is a Over b, reckoned apart from the program.
func overExact(a *big.Int, b *big.Int) int {
	inverse := new(big.Int).ModInverse(wide(exact(b)), big.NewInt(impl.Prime))
	if inverse == nil {
		return 0
	}
	return exact(inverse.Mul(inverse, a))
}

func inSizes(least int, xs ...int) bool {
	for _, x := range xs {
		if x < least || x > 4096 {
			return false
		}
	}
	return true
}

// wantConv says what the document says of Conv, sum by sum.
func wantConv(x impl.Tensor, w impl.Tensor, stride int, pad int, dil int, groups int) impl.Tensor {
	if !wantTensorOk(x) || !wantTensorOk(w) || len(x.Dims) != 4 || len(w.Dims) != 4 {
		return impl.Tensor{}
	}
	if !inSizes(1, stride, dil, groups) || !inSizes(0, pad) {
		return impl.Tensor{}
	}
	n, c, h, wide1 := x.Dims[0], x.Dims[1], x.Dims[2], x.Dims[3]
	o, k, a, b := w.Dims[0], w.Dims[1], w.Dims[2], w.Dims[3]
	if c != k*groups || o%groups != 0 || dil*(a-1)+1 > h+2*pad || dil*(b-1)+1 > wide1+2*pad {
		return impl.Tensor{}
	}
	high := (h+2*pad-dil*(a-1)-1)/stride + 1
	broad := (wide1+2*pad-dil*(b-1)-1)/stride + 1
	if !wantDims(ints(n, o, high, broad)) || n*o*high*broad*k*a*b > 65536 {
		return impl.Tensor{}
	}
	kernel := indexesOf(ints(k, a, b))
	return built(ints(n, o, high, broad), func(at []int) int {
		sum := new(big.Int)
		for _, in := range kernel {
			row, column := at[2]*stride-pad+dil*in[1], at[3]*stride-pad+dil*in[2]
			if row < 0 || row >= h || column < 0 || column >= wide1 {
				continue
			}
			from := numberAt(x, ints(at[0], at[1]/(o/groups)*k+in[0], row, column))
			weight := numberAt(w, ints(at[1], in[0], in[1], in[2]))
			sum.Add(sum, new(big.Int).Mul(wide(weight), wide(from)))
		}
		return exact(sum)
	})
}

type convCase struct {
	x, w                     impl.Tensor
	stride, pad, dil, groups int
}

func (c convCase) conv() impl.Tensor {
	return impl.Conv(c.x, c.w, c.stride, c.pad, c.dil, c.groups)
}

func checkConv(t *testing.T, c convCase) impl.Tensor {
	t.Helper()
	got := c.conv()
	want := wantConv(c.x, c.w, c.stride, c.pad, c.dil, c.groups)
	if !sameTensor(got, want) {
		t.Fatalf("Conv(%s, %s, %d, %d, %d, %d) = %s, not %s", brief(c.x), brief(c.w), c.stride, c.pad, c.dil, c.groups, brief(got), brief(want))
	}
	return got
}

// randomConv is one that can be, most of the time.
func randomConv(source *rand.Rand) convCase {
	groups, depth := 1+source.Intn(3), 1+source.Intn(2)
	c := convCase{stride: 1 + source.Intn(3), pad: source.Intn(3), dil: 1 + source.Intn(3), groups: groups}
	c.x = randomTensor(source, ints(1+source.Intn(2), depth*groups, 1+source.Intn(6), 1+source.Intn(6)))
	c.w = randomTensor(source, ints(groups*(1+source.Intn(2)), depth, 1+source.Intn(3), 1+source.Intn(3)))
	return c
}

func TestConvAgainstWords(t *testing.T) {
	source := rand.New(rand.NewSource(50))
	some, none := 0, 0
	for range 1500 {
		if isNoTensor(checkConv(t, randomConv(source))) {
			none++
		} else {
			some++
		}
	}
	if some < 800 || none < 50 {
		t.Errorf("%d gave a tensor, %d none", some, none)
	}
}

func TestConvRows(t *testing.T) {
	nine := tensorOf(ints(1, 1, 3, 3), 1, 2, 3, 4, 5, 6, 7, 8, 9)
	four := tensorOf(ints(1, 1, 2, 2), 1, 10, 100, 1000)
	lone := tensorOf(ints(1, 1, 1, 1), 3)
	halves := tensorOf(ints(2, 1, 1, 1), 1, 10)
	two := tensorOf(ints(1, 2, 1, 2), 1, 2, 3, 4)
	row := tensorOf(ints(1, 1, 1, 5), 1, 2, 3, 4, 5)
	checkTensorCases(t, "Conv", []tensorCase{
		{impl.Conv(nine, four, 1, 0, 1, 1), tensorOf(ints(1, 1, 2, 2), 5421, 6532, 8754, 9865)},
		{impl.Conv(nine, four, 2, 0, 1, 1), tensorOf(ints(1, 1, 1, 1), 5421)},
		{impl.Conv(nine, four, 1, 0, 2, 1), tensorOf(ints(1, 1, 1, 1), 9731)},
		{impl.Conv(nine, four, 2, 1, 1, 1), tensorOf(ints(1, 1, 2, 2), 1000, 3200, 7040, 9865)},
		{impl.Conv(nine, four, 3, 1, 1, 1), tensorOf(ints(1, 1, 2, 2), 1000, 300, 70, 9)},
		{impl.Conv(nine, four, 1, 1, 4, 1), tensorOf(ints(1, 1, 1, 1), 0)},
		{impl.Conv(nine, four, 2, 1, 3, 1), tensorOf(ints(1, 1, 1, 1), 9000)},
		{impl.Conv(nine, nine, 1, 0, 1, 1), tensorOf(ints(1, 1, 1, 1), 285)},
		{impl.Conv(nine, lone, 1, 0, 4096, 1), tensorOf(ints(1, 1, 3, 3), 3, 6, 9, 12, 15, 18, 21, 24, 27)},
		{impl.Conv(nine, lone, 4096, 0, 1, 1), tensorOf(ints(1, 1, 1, 1), 3)},
		{impl.Conv(lone, lone, 4096, 4096, 4096, 1), tensorOf(ints(1, 1, 3, 3), 0, 0, 0, 0, 9, 0, 0, 0, 0)},
		{impl.Conv(lone, lone, 1, 1, 1, 1), tensorOf(ints(1, 1, 3, 3), 0, 0, 0, 0, 9, 0, 0, 0, 0)},
		{impl.Conv(lone, four, 4096, 4096, 4096, 1), tensorOf(ints(1, 1, 2, 2), 3000, 300, 30, 3)},
		{impl.Conv(two, halves, 1, 0, 1, 2), tensorOf(ints(1, 2, 1, 2), 1, 2, 30, 40)},
		{impl.Conv(two, tensorOf(ints(1, 2, 1, 1), 1, 10), 1, 0, 1, 1), tensorOf(ints(1, 1, 1, 2), 31, 42)},
		{impl.Conv(row, tensorOf(ints(1, 1, 1, 2), 1, 10), 2, 0, 1, 1), tensorOf(ints(1, 1, 1, 2), 21, 43)},
		{impl.Conv(row, tensorOf(ints(1, 1, 1, 2), 1, 10), 2, 0, 2, 1), tensorOf(ints(1, 1, 1, 2), 31, 53)},
		{impl.Conv(row, row, 1, 0, 1, 1), tensorOf(ints(1, 1, 1, 1), 55)},
		{impl.Conv(lone, tensorOf(ints(1, 1, 1, 1), impl.Prime-1), 1, 0, 1, 1), tensorOf(ints(1, 1, 1, 1), impl.Prime-3)},
		{impl.Conv(tensorOf(ints(2, 1, 1, 1), 5, 6), halves, 1, 0, 1, 1), tensorOf(ints(2, 2, 1, 1), 5, 50, 6, 60)},
	})
}

// What is wrong is so by one thing alone: each row stands beside one that
// gives a tensor.
func TestConvOfWrong(t *testing.T) {
	x, w := impl.Fill(ints(1, 2, 3, 3), 1), impl.Fill(ints(4, 1, 2, 2), 1)
	if isNoTensor(impl.Conv(x, w, 1, 0, 1, 2)) {
		t.Fatal("the row beside them")
	}
	for _, bad := range []int{math.MinInt, math.MinInt + 1, math.MinInt + 2, -4096, -2, -1, 0, 4097, 8192, 1 << 32, 1 << 62, math.MaxInt - 1, math.MaxInt} {
		checkNone(t, "Conv", tensors(impl.Conv(x, w, bad, 0, 1, 2), impl.Conv(x, w, 1, 0, bad, 2), impl.Conv(x, w, 1, 0, 1, bad)))
		if bad != 0 {
			checkNone(t, "Conv, pad", tensors(impl.Conv(x, w, 4096, bad, 1, 2), impl.Conv(x, w, 1, bad, 1, 2), impl.Conv(x, w, bad, bad, bad, bad)))
		}
		lone := impl.Fill(ints(1, 1, 1, 1), 1)
		checkNone(t, "Conv of lone ones", tensors(impl.Conv(lone, lone, bad, 0, 1, 1), impl.Conv(lone, lone, 1, 0, bad, 1), impl.Conv(lone, lone, 1, 0, 1, bad)))
	}
	great := impl.Fill(ints(1, 2, 9, 9), 1)
	checkNone(t, "Conv with room for less", tensors(impl.Conv(great, w, 1, -1, 1, 2), impl.Conv(great, w, 1, -2, 1, 2), impl.Conv(great, w, 2, -3, 1, 2)))
	many := impl.Fill(ints(1, 4096, 1, 1), 1)
	each := impl.Fill(ints(4096, 1, 1, 1), 2)
	checkTensorCases(t, "Conv", []tensorCase{
		{impl.Conv(many, each, 1, 0, 1, 4096), impl.Fill(ints(1, 4096, 1, 1), 2)},
		{impl.Conv(many, each, 1, 0, 1, 4095), impl.Tensor{}}, {impl.Conv(many, each, 1, 0, 1, 4097), impl.Tensor{}}, {impl.Conv(many, each, 1, 0, 1, 1), impl.Tensor{}},
	})
	source := rand.New(rand.NewSource(51))
	four := randomTensor(source, ints(1, 4, 3, 3))
	for _, dims := range [][]int{ints(4, 4, 2, 2), ints(4, 2, 2, 2), ints(4, 1, 2, 2), ints(2, 2, 2, 2), ints(3, 2, 2, 2), ints(3, 4, 2, 2), ints(6, 1, 2, 2), ints(8, 1, 2, 2), ints(1, 3, 2, 2), ints(1, 5, 2, 2), ints(2, 1, 2, 2), ints(1, 1, 2, 2)} {
		for groups := 1; groups < 10; groups++ {
			checkConv(t, convCase{four, randomTensor(source, dims), 1, 0, 1, groups})
		}
	}
	for _, dims := range [][]int{nil, ints(1), ints(1, 1), ints(1, 1, 1), ints(1, 1, 1, 1, 1), ints(1, 1, 1, 1, 1, 1)} {
		lone, other := impl.Fill(ints(1, 1, 1, 1), 1), impl.Fill(dims, 1)
		checkNone(t, "Conv of other Dims", tensors(impl.Conv(other, lone, 1, 0, 1, 1), impl.Conv(lone, other, 1, 0, 1, 1), impl.Conv(other, other, 1, 0, 1, 1)))
	}
	wrong := append(wrongTensors(), tensorOf(ints(1, 1, 1, 1), -1), tensorOf(ints(1, 1, 1, 1), impl.Prime), tensorOf(ints(1, 1, 1, 1)), tensorOf(ints(1, 1, 1, 1), 1, 1),
		tensorOf(ints(-1, 1, -1, 1), 1), tensorOf(ints(0, 1, 1, 1)), tensorOf(ints(1, 1, 1, 0)), tensorOf(ints(1, 1, 0, 1)), tensorOf(ints(1, 0, 1, 1)), tensorOf(ints(1, 1, 64, 65), make([]int, 4160)...))
	for _, bad := range wrong {
		lone := impl.Fill(ints(1, 1, 1, 1), 1)
		checkNone(t, "Conv of wrong ones", tensors(impl.Conv(bad, lone, 1, 0, 1, 1), impl.Conv(lone, bad, 1, 0, 1, 1), impl.Conv(bad, bad, 1, 0, 1, 1)))
	}
}

// Kernels that just fit, and such as are one too long, along both axes.
func TestConvWhereKernelsFit(t *testing.T) {
	source := rand.New(rand.NewSource(52))
	fit, not := 0, 0
	for range 600 {
		high, broad, pad, dil := 1+source.Intn(4), 1+source.Intn(4), source.Intn(3), 1+source.Intn(3)
		a, b := 1+(high+2*pad-1)/dil+source.Intn(2), 1+(broad+2*pad-1)/dil+source.Intn(2)
		c := convCase{randomTensor(source, ints(1, 1, high, broad)), randomTensor(source, ints(1, 1, a, b)), 1 + source.Intn(5), pad, dil, 1}
		got := checkConv(t, c)
		if fits := dil*(a-1) < high+2*pad && dil*(b-1) < broad+2*pad; fits != !isNoTensor(got) {
			t.Fatalf("%v: %s", c, brief(got))
		} else if fits {
			fit++
		} else {
			not++
		}
	}
	if fit < 100 || not < 100 {
		t.Errorf("%d fit, %d do not", fit, not)
	}
}

func TestConvLimits(t *testing.T) {
	of := func(dims ...int) impl.Tensor {
		return built(dims, func(index []int) int { return 1 + index[len(index)-1]%7 })
	}
	rows := []struct {
		c    convCase
		dims []int
	}{
		{convCase{of(1, 1, 64, 64), of(1, 1, 1, 1), 1, 0, 1, 1}, ints(1, 1, 64, 64)},
		{convCase{of(1, 1, 64, 64), of(1, 1, 1, 1), 1, 1, 1, 1}, nil},
		{convCase{of(1, 1, 64, 64), of(2, 1, 1, 1), 1, 0, 1, 1}, nil},
		{convCase{of(1, 1, 64, 64), of(1, 1, 3, 3), 1, 1, 1, 1}, ints(1, 1, 64, 64)},
		{convCase{of(1, 1, 1, 4096), of(1, 1, 1, 1), 1, 0, 1, 1}, ints(1, 1, 1, 4096)},
		{convCase{of(1, 1, 1, 4095), of(1, 1, 3, 1), 1, 1, 1, 1}, nil},
		{convCase{of(1, 1, 2, 2), of(1, 1, 3, 3), 1, 32, 1, 1}, ints(1, 1, 64, 64)},
		{convCase{of(1, 1, 2, 3), of(1, 1, 3, 3), 1, 32, 1, 1}, nil},
		{convCase{of(1, 16, 16, 16), of(16, 16, 1, 1), 1, 0, 1, 1}, ints(1, 16, 16, 16)},
		{convCase{of(1, 1, 63, 63), of(1, 1, 4, 4), 1, 2, 1, 1}, ints(1, 1, 64, 64)},
		{convCase{of(1, 1, 63, 63), of(1, 1, 5, 4), 1, 2, 1, 1}, nil},
		{convCase{of(1, 1, 63, 64), of(1, 1, 4, 4), 1, 2, 1, 1}, nil},
		{convCase{of(1, 1, 1, 348), of(11, 1, 1, 18), 1, 0, 1, 1}, nil},
		{convCase{of(1, 1, 1, 347), of(11, 1, 1, 18), 1, 0, 1, 1}, ints(1, 11, 1, 330)},
		{convCase{of(1, 1, 1, 273), of(16, 1, 1, 16), 1, 0, 1, 1}, nil},
		{convCase{of(1, 1, 1, 271), of(16, 1, 1, 16), 1, 0, 1, 1}, ints(1, 16, 1, 256)},
		{convCase{of(1, 1, 271, 1), of(16, 1, 16, 1), 1, 0, 1, 1}, ints(1, 16, 256, 1)},
		{convCase{of(1, 1, 272, 1), of(16, 1, 16, 1), 1, 0, 1, 1}, nil},
		{convCase{of(2, 8, 16, 16), of(8, 8, 2, 2), 2, 0, 1, 1}, ints(2, 8, 8, 8)},
		{convCase{of(16, 16, 4, 4), of(16, 16, 1, 1), 1, 0, 1, 1}, ints(16, 16, 4, 4)},
		{convCase{of(8, 32, 4, 4), of(32, 32, 1, 1), 1, 0, 1, 1}, nil},
		{convCase{of(8, 32, 4, 4), of(32, 16, 1, 1), 1, 0, 1, 2}, ints(8, 32, 4, 4)},
		{convCase{of(1, 1, 1, 1), of(1, 1, 1, 1), 1, 4096, 1, 1}, nil},
		{convCase{of(1, 1, 1, 1), of(1, 1, 1, 1), 129, 4096, 1, 1}, ints(1, 1, 64, 64)},
		{convCase{of(1, 1, 1, 1), of(1, 1, 1, 1), 128, 4096, 1, 1}, nil},
		{convCase{of(1, 1, 1, 1), of(1, 1, 64, 64), 1, 32, 1, 1}, ints(1, 1, 2, 2)},
		{convCase{of(1, 1, 2, 2), of(1, 1, 64, 64), 1, 32, 1, 1}, ints(1, 1, 3, 3)},
		{convCase{of(1, 1, 3, 3), of(1, 1, 64, 64), 1, 32, 1, 1}, ints(1, 1, 4, 4)},
		{convCase{of(1, 1, 3, 4), of(1, 1, 64, 64), 1, 32, 1, 1}, nil},
		{convCase{of(1, 1, 1, 1), of(1, 1, 1, 3), 1, 4096, 4096, 1}, nil},
		{convCase{of(1, 1, 1, 1), of(1, 1, 3, 3), 1, 4096, 4096, 1}, ints(1, 1, 1, 1)},
		{convCase{of(1, 1, 1, 1), of(1, 1, 3, 4), 1, 4096, 4096, 1}, nil},
		{convCase{of(1, 1, 1, 1), of(1, 1, 4, 3), 1, 4096, 4096, 1}, nil},
	}
	for i, row := range rows {
		if got := checkConv(t, row.c); !slices.Equal(got.Dims, row.dims) {
			t.Errorf("row %d: %s, not %v", i, brief(got), row.dims)
		}
	}
}

// lookThrough gives what turns of the whole view of a tensor show of it.
func lookThrough(x impl.Tensor, turns ...func(v impl.View) impl.View) impl.Tensor {
	v := impl.Whole(x.Dims)
	for _, turn := range turns {
		v = turn(v)
	}
	return impl.Look(x, v)
}

func inWindows(axis int, size int, step int) func(v impl.View) impl.View {
	return func(v impl.View) impl.View { return impl.Windows(v, axis, size, step) }
}

func inSlice(axis int, from int, count int) func(v impl.View) impl.View {
	return func(v impl.View) impl.View { return impl.Slice(v, axis, from, count, 1) }
}

// P14: Conv without dilation is a contraction of windows.
func TestConvIsAContractionOfWindows(t *testing.T) {
	source := rand.New(rand.NewSource(53))
	compared := 0
	for range 400 {
		c := randomConv(source)
		c.dil, c.groups = 1, 1
		c.w = randomTensor(source, ints(1+source.Intn(3), c.x.Dims[1], 1+source.Intn(3), 1+source.Intn(3)))
		padded := impl.Pad(impl.Pad(c.x, 2, c.pad, c.pad, 0), 3, c.pad, c.pad, 0)
		windows := lookThrough(padded, inWindows(2, c.w.Dims[2], c.stride), inWindows(3, c.w.Dims[3], c.stride))
		if !isNoTensor(windows) {
			compared++
		}
		checkTensor(t, "Conv", checkConv(t, c), impl.Contract("nchwab,ocab->nohw", tensors(windows, c.w)))
	}
	if compared < 300 {
		t.Errorf("only %d were compared", compared)
	}
}

// P14: in groups it is the groups' convolutions.
func TestConvInGroupsIsTheGroups(t *testing.T) {
	source := rand.New(rand.NewSource(54))
	compared := 0
	for range 600 {
		c := randomConv(source)
		got := checkConv(t, c)
		depth, share := c.w.Dims[1], c.w.Dims[0]/c.groups
		parts := []impl.Tensor{}
		for g := range c.groups {
			x, w := lookThrough(c.x, inSlice(1, g*depth, depth)), lookThrough(c.w, inSlice(0, g*share, share))
			parts = append(parts, impl.Conv(x, w, c.stride, c.pad, c.dil, 1))
		}
		if !isNoTensor(got) && c.groups > 1 {
			compared++
		}
		checkTensor(t, "Conv in groups", got, impl.Concat(parts, 1))
	}
	if compared < 200 {
		t.Errorf("only %d were compared", compared)
	}
}

// wantPool says what the document says of pools, square by square.
func wantPool(x impl.Tensor, size int, step int, keep func(square []int) int) impl.Tensor {
	if !wantTensorOk(x) || len(x.Dims) < 2 || size < 1 || step < 1 {
		return impl.Tensor{}
	}
	dims, last := slices.Clone(x.Dims), len(x.Dims)-1
	for _, axis := range []int{last - 1, last} {
		if size > dims[axis] {
			return impl.Tensor{}
		}
		dims[axis] = (dims[axis]-size)/step + 1
	}
	return built(dims, func(index []int) int {
		square := []int{}
		for i := index[last-1] * step; i < index[last-1]*step+size; i++ {
			for j := index[last] * step; j < index[last]*step+size; j++ {
				square = append(square, numberAt(x, append(slices.Clone(index[:last-1]), i, j)))
			}
		}
		return keep(square)
	})
}

func greatestOf(square []int) int {
	greatest := square[0]
	for _, x := range square {
		if signedOf(x) > signedOf(greatest) {
			greatest = x
		}
	}
	return greatest
}

func sumExact(square []int) int {
	sum := new(big.Int)
	for _, x := range square {
		sum.Add(sum, wide(x))
	}
	return exact(sum)
}

func checkPools(t *testing.T, x impl.Tensor, size int, step int) {
	t.Helper()
	if got, want := impl.MaxPool(x, size, step), wantPool(x, size, step, greatestOf); !sameTensor(got, want) {
		t.Fatalf("MaxPool(%s, %d, %d) = %s, not %s", brief(x), size, step, brief(got), brief(want))
	}
	if got, want := impl.SumPool(x, size, step), wantPool(x, size, step, sumExact); !sameTensor(got, want) {
		t.Fatalf("SumPool(%s, %d, %d) = %s, not %s", brief(x), size, step, brief(got), brief(want))
	}
}

func poolInts() []int {
	return []int{math.MinInt, math.MinInt + 1, -4096, -2, -1, 0, 1, 2, 3, 4, 5, 6, 7, 63, 64, 65, 4095, 4096, 4097, 1 << 32, math.MaxInt - 1, math.MaxInt}
}

func TestPoolsAgainstWords(t *testing.T) {
	source := rand.New(rand.NewSource(55))
	shapes := [][]int{nil, ints(1), ints(4), ints(4096), ints(1, 1), ints(1, 5), ints(5, 1), ints(2, 2), ints(4, 5), ints(5, 4), ints(6, 6), ints(2, 3, 4), ints(2, 1, 3, 3), ints(1, 2, 1, 4, 3),
		ints(2, 1, 2, 1, 3, 4), ints(1, 1, 1, 1, 1, 1), ints(1, 4096), ints(4096, 1), ints(2, 2, 3), ints(7, 3)}
	for _, dims := range shapes {
		for _, size := range poolInts() {
			for _, step := range poolInts() {
				checkPools(t, randomTensor(source, dims), size, step)
			}
		}
	}
	for _, x := range wrongTensors() {
		checkPools(t, x, 1, 1)
		checkPools(t, x, 2, 1)
	}
	square := randomTensor(source, ints(64, 64))
	for _, size := range []int{1, 2, 63, 64, 65} {
		for _, step := range []int{1, 2, 63, 64} {
			checkPools(t, square, size, step)
		}
	}
	checkPools(t, square, 32, 3)
}

func TestPoolRows(t *testing.T) {
	nine := tensorOf(ints(3, 3), 1, 2, 3, 4, 5, 6, 7, 8, 9)
	turn := tensorOf(ints(2, 2), turnsAt+1, turnsAt, 0, impl.Prime-1)
	below := tensorOf(ints(2, 2), turnsAt+1, impl.Prime-1, impl.Prime-2, turnsAt+2)
	checkTensorCases(t, "pools", []tensorCase{
		{impl.MaxPool(nine, 2, 1), tensorOf(ints(2, 2), 5, 6, 8, 9)}, {impl.SumPool(nine, 2, 1), tensorOf(ints(2, 2), 12, 16, 24, 28)},
		{impl.MaxPool(nine, 2, 2), tensorOf(ints(1, 1), 5)}, {impl.SumPool(nine, 2, 2), tensorOf(ints(1, 1), 12)},
		{impl.MaxPool(nine, 1, 2), tensorOf(ints(2, 2), 1, 3, 7, 9)}, {impl.SumPool(nine, 1, 2), tensorOf(ints(2, 2), 1, 3, 7, 9)},
		{impl.MaxPool(nine, 3, 1), tensorOf(ints(1, 1), 9)}, {impl.SumPool(nine, 3, math.MaxInt), tensorOf(ints(1, 1), 45)},
		{impl.MaxPool(nine, 1, 1), nine}, {impl.SumPool(nine, 1, 1), nine},
		{impl.MaxPool(nine, 4, 1), impl.Tensor{}}, {impl.SumPool(nine, 4, 1), impl.Tensor{}},
		{impl.MaxPool(turn, 2, 1), tensorOf(ints(1, 1), turnsAt)}, {impl.SumPool(turn, 2, 1), tensorOf(ints(1, 1), impl.Prime-1)},
		{impl.MaxPool(below, 2, 1), tensorOf(ints(1, 1), impl.Prime-1)},
		{impl.MaxPool(tensorOf(ints(2, 3), 1, 2, 3, 4, 5, 6), 2, 1), tensorOf(ints(1, 2), 5, 6)},
		{impl.MaxPool(tensorOf(ints(2, 3), 1, 2, 3, 4, 5, 6), 3, 1), impl.Tensor{}},
		{impl.SumPool(tensorOf(ints(3, 2), 1, 2, 3, 4, 5, 6), 3, 1), impl.Tensor{}},
		{impl.MaxPool(tensorOf(ints(3), 1, 2, 3), 1, 1), impl.Tensor{}}, {impl.SumPool(tensorOf(nil, 1), 1, 1), impl.Tensor{}},
		{impl.SumPool(tensorOf(ints(2, 1, 2), 1, 2, 3, 4), 1, 1), tensorOf(ints(2, 1, 2), 1, 2, 3, 4)},
	})
}

// P15: SumPool is a contraction of windows, MaxPool not below them.
func TestPoolsOfWindows(t *testing.T) {
	source := rand.New(rand.NewSource(56))
	compared := 0
	for range 400 {
		x := randomTensor(source, ints(1+source.Intn(2), 1+source.Intn(3), 1+source.Intn(6), 1+source.Intn(6)))
		size, step := 1+source.Intn(3), 1+source.Intn(3)
		windows := lookThrough(x, inWindows(2, size, step), inWindows(3, size, step))
		checkTensor(t, "SumPool", impl.SumPool(x, size, step), impl.Contract("nchwab->nchw", tensors(windows)))
		greatest := impl.MaxPool(x, size, step)
		if isNoTensor(windows) {
			checkNone(t, "MaxPool", tensors(greatest))
			continue
		}
		compared++
		for at, y := range windows.Data {
			if kept := greatest.Data[at/(size*size)]; signedOf(kept) < signedOf(y) {
				t.Fatalf("MaxPool(%s, %d, %d) has %d where %d is seen", brief(x), size, step, kept, y)
			}
		}
		for at, kept := range greatest.Data {
			if !slices.Contains(windows.Data[at*size*size:(at+1)*size*size], kept) {
				t.Fatalf("MaxPool(%s, %d, %d) has %d, which is not seen there", brief(x), size, step, kept)
			}
		}
	}
	if compared < 200 {
		t.Errorf("only %d were compared", compared)
	}
}

func wantNormalise(x impl.Tensor, axis int, low int) impl.Tensor {
	if !hasAxis(x, axis) {
		return impl.Tensor{}
	}
	count := wide(x.Dims[axis])
	return built(x.Dims, func(index []int) int {
		sum, squares := new(big.Int), new(big.Int)
		line := lineOf(x, axis, index)
		for _, y := range line {
			sum.Add(sum, wide(y))
		}
		mean := wide(overExact(sum, count))
		for _, y := range line {
			off := new(big.Int).Sub(wide(y), mean)
			squares.Add(squares, off.Mul(off, off))
		}
		below := new(big.Int).Add(wide(overExact(squares, count)), wide(low))
		return overExact(new(big.Int).Sub(wide(numberAt(x, index)), mean), below)
	})
}

// P15: Normalise sums to 0.
func TestNormaliseAgainstWords(t *testing.T) {
	lows := []int{0, 1, 2, -1, -2, impl.Prime - 1, impl.Prime, impl.Prime + 1, -impl.Prime, math.MinInt, math.MaxInt}
	for _, x := range append(tensorsWithTies(), someTensors(40, 57)...) {
		for i, low := range lows {
			if len(x.Data) > 1000 && i > 0 {
				break
			}
			for axis := range x.Dims {
				got := impl.Normalise(x, axis, low)
				if len(x.Data) <= 1000 {
					checkTensor(t, "Normalise", got, wantNormalise(x, axis, low))
				}
				for _, index := range firstOfLines(got, axis) {
					if sum := sumExact(lineOf(got, axis, index)); sum != 0 || len(got.Data) != len(x.Data) {
						t.Fatalf("Normalise(%s, %d, %d) sums to %d", brief(x), axis, low, sum)
					}
				}
			}
			checkNone(t, "Normalise", tensors(impl.Normalise(x, -1, low), impl.Normalise(x, len(x.Dims), low), impl.Normalise(x, math.MinInt, low), impl.Normalise(x, math.MaxInt, low)))
		}
	}
	for _, x := range wrongTensors() {
		checkNone(t, "Normalise", tensors(impl.Normalise(x, 0, 0), impl.Normalise(x, 0, 1), impl.Normalise(x, 1, 1), impl.Normalise(x, -1, 1)))
	}
}

func TestNormaliseRows(t *testing.T) {
	minus := impl.Prime - 1
	a := tensorOf(ints(2, 2), 1, 3, 5, 5)
	checkTensorCases(t, "Normalise", []tensorCase{
		{impl.Normalise(tensorOf(ints(2), 0, 2), 0, 0), tensorOf(ints(2), minus, 1)},
		{impl.Normalise(tensorOf(ints(2), 0, 2), 0, 1), tensorOf(ints(2), impl.Over(-1, 2), impl.Over(1, 2))},
		{impl.Normalise(tensorOf(ints(2), 0, 2), 0, -1), tensorOf(ints(2), 0, 0)},
		{impl.Normalise(tensorOf(ints(2), 0, 2), 0, minus), tensorOf(ints(2), 0, 0)},
		{impl.Normalise(tensorOf(ints(2), 0, 2), 0, -1-impl.Prime), tensorOf(ints(2), 0, 0)},
		{impl.Normalise(tensorOf(ints(2), 0, 2), 0, -2), tensorOf(ints(2), 1, minus)},
		{impl.Normalise(tensorOf(ints(2), 0, 2), 0, impl.Prime), tensorOf(ints(2), minus, 1)},
		{impl.Normalise(tensorOf(ints(2), 0, 2), 0, math.MinInt), tensorOf(ints(2), 1, minus)},
		{impl.Normalise(tensorOf(ints(2), 0, 2), 0, math.MaxInt), tensorOf(ints(2), impl.Over(-1, 2), impl.Over(1, 2))},
		{impl.Normalise(tensorOf(ints(3), 1, 2, 3), 0, 0), tensorOf(ints(3), impl.Over(-3, 2), 0, impl.Over(3, 2))},
		{impl.Normalise(tensorOf(ints(2), 0, 1), 0, 0), tensorOf(ints(2), impl.Prime-2, 2)},
		{impl.Normalise(tensorOf(ints(1), 7), 0, 1), tensorOf(ints(1), 0)}, {impl.Normalise(tensorOf(ints(1), 7), 0, 0), tensorOf(ints(1), 0)},
		{impl.Normalise(tensorOf(ints(3), 7, 7, 7), 0, 0), tensorOf(ints(3), 0, 0, 0)}, {impl.Normalise(tensorOf(ints(3), 7, 7, 7), 0, 5), tensorOf(ints(3), 0, 0, 0)},
		{impl.Normalise(a, 1, 0), tensorOf(ints(2, 2), minus, 1, 0, 0)}, {impl.Normalise(a, 1, 1), tensorOf(ints(2, 2), impl.Over(-1, 2), impl.Over(1, 2), 0, 0)},
		{impl.Normalise(a, 0, 0), tensorOf(ints(2, 2), impl.Over(-1, 2), minus, impl.Over(1, 2), 1)},
		{impl.Normalise(a, 2, 0), impl.Tensor{}}, {impl.Normalise(a, -1, 0), impl.Tensor{}}, {impl.Normalise(tensorOf(nil, 1), 0, 0), impl.Tensor{}},
	})
}

// wantAttend says what the document says of Attend, row by row.
func wantAttend(q impl.Tensor, k impl.Tensor, v impl.Tensor, window int) impl.Tensor {
	for _, a := range tensors(q, k, v) {
		if !wantTensorOk(a) || len(a.Dims) != 2 {
			return impl.Tensor{}
		}
	}
	rows, all, depth, made := q.Dims[0], k.Dims[0], q.Dims[1], v.Dims[1]
	if k.Dims[1] != depth || v.Dims[0] != all || rows > all || !inSizes(0, window) || rows*all*(depth+made) > 65536 {
		return impl.Tensor{}
	}
	return built(ints(rows, made), func(index []int) int {
		place := all - rows + index[0]
		sum, total := new(big.Int), new(big.Int)
		for s := range all {
			if s > place || window > 0 && s <= place-window {
				continue
			}
			weight := new(big.Int)
			for d := range depth {
				weight.Add(weight, new(big.Int).Mul(wide(numberAt(q, ints(index[0], d))), wide(numberAt(k, ints(s, d)))))
			}
			weight.Mul(weight, weight)
			weight.Add(weight, wide(1))
			total.Add(total, weight)
			sum.Add(sum, weight.Mul(weight, wide(numberAt(v, ints(s, index[1])))))
		}
		return overExact(sum, total)
	})
}

func checkAttend(t *testing.T, q impl.Tensor, k impl.Tensor, v impl.Tensor, window int) impl.Tensor {
	t.Helper()
	got, want := impl.Attend(q, k, v, window), wantAttend(q, k, v, window)
	if !sameTensor(got, want) {
		t.Fatalf("Attend(%s, %s, %s, %d) = %s, not %s", brief(q), brief(k), brief(v), window, brief(got), brief(want))
	}
	return got
}

func windowInts() []int {
	return []int{0, 1, 2, 3, 4, 5, 6, 7, 4095, 4096, 4097, -1, -2, 1 << 32, math.MinInt, math.MinInt + 1, math.MaxInt - 1, math.MaxInt}
}

func TestAttendAgainstWords(t *testing.T) {
	source := rand.New(rand.NewSource(58))
	some, none := 0, 0
	for range 300 {
		rows, all, depth, made := 1+source.Intn(5), 1+source.Intn(6), 1+source.Intn(3), 1+source.Intn(3)
		q, k, v := randomTensor(source, ints(rows, depth)), randomTensor(source, ints(all, depth)), randomTensor(source, ints(all, made))
		for _, window := range windowInts() {
			if isNoTensor(checkAttend(t, q, k, v, window)) {
				none++
			} else {
				some++
			}
		}
	}
	if some < 1000 || none < 1000 {
		t.Errorf("%d gave a tensor, %d none", some, none)
	}
}

// twoThatSumTo0 are two numbers of which the squares sum to -2.
func twoThatSumTo0(t *testing.T) (int, int) {
	for a := 1; a < 1000; a++ {
		rest := impl.Minus(-2, impl.Times(a, a))
		// Prime is 3 modulo 4: a square's root is a power of it.
		root := exact(new(big.Int).Exp(wide(rest), wide((impl.Prime+1)/4), big.NewInt(impl.Prime)))
		if impl.Times(root, root) == rest {
			return a, root
		}
	}
	t.Fatal("there are none")
	return 0, 0
}

func TestAttendRows(t *testing.T) {
	q, k, v := tensorOf(ints(2, 1), 1, 2), tensorOf(ints(2, 1), 1, 2), tensorOf(ints(2, 1), 3, 5)
	wide2 := tensorOf(ints(2, 2), 3, 1, 5, 0)
	a, b := twoThatSumTo0(t)
	noWeight := tensorOf(ints(2, 1), a, b)
	checkTensorCases(t, "Attend", []tensorCase{
		// The second row's weights are 1 + 4 and 1 + 16.
		{impl.Attend(q, k, v, 0), tensorOf(ints(2, 1), 3, impl.Over(5*3+17*5, 22))},
		{impl.Attend(q, k, wide2, 0), tensorOf(ints(2, 2), 3, 1, impl.Over(100, 22), impl.Over(5, 22))},
		{impl.Attend(q, k, v, 1), tensorOf(ints(2, 1), 3, 5)}, {impl.Attend(q, k, v, 2), tensorOf(ints(2, 1), 3, impl.Over(100, 22))},
		{impl.Attend(q, k, v, 4096), tensorOf(ints(2, 1), 3, impl.Over(100, 22))},
		{impl.Attend(q, k, v, 4097), impl.Tensor{}}, {impl.Attend(q, k, v, -1), impl.Tensor{}},
		{impl.Attend(tensorOf(ints(1, 1), 2), k, v, 0), tensorOf(ints(1, 1), impl.Over(100, 22))},
		{impl.Attend(tensorOf(ints(1, 1), 2), k, v, 1), tensorOf(ints(1, 1), 5)},
		{impl.Attend(tensorOf(ints(1, 1), 0), k, v, 0), tensorOf(ints(1, 1), 4)},
		{impl.Attend(tensorOf(ints(1, 2), 1, impl.Prime-1), tensorOf(ints(2, 2), 3, 3, 3, 2), v, 0), tensorOf(ints(1, 1), impl.Over(13, 3))},
		{impl.Attend(tensorOf(ints(3, 1), 1, 1, 1), k, v, 0), impl.Tensor{}},
		{impl.Attend(q, tensorOf(ints(2, 2), 1, 2, 3, 4), v, 0), impl.Tensor{}}, {impl.Attend(tensorOf(ints(2, 2), 1, 2, 3, 4), k, v, 0), impl.Tensor{}},
		{impl.Attend(q, k, tensorOf(ints(3, 1), 1, 2, 3), 0), impl.Tensor{}}, {impl.Attend(q, tensorOf(ints(3, 1), 1, 2, 3), v, 0), impl.Tensor{}},
		{impl.Attend(tensorOf(ints(1, 1), 1), k, tensorOf(ints(1, 1), 1), 0), impl.Tensor{}},
		{impl.Attend(tensorOf(ints(1, 1), 1), noWeight, wide2, 0), tensorOf(ints(1, 2), 0, 0)},
		{impl.Attend(tensorOf(ints(2, 1), 1, 1), noWeight, wide2, 0), tensorOf(ints(2, 2), 3, 1, 0, 0)},
		{impl.Attend(tensorOf(ints(1, 1), 1), noWeight, wide2, 1), tensorOf(ints(1, 2), 5, 0)},
	})
}

func TestAttendLimits(t *testing.T) {
	of := func(dims ...int) impl.Tensor {
		return built(dims, func(index []int) int { return 1 + (3*index[0]+index[1])%7 })
	}
	rows := []struct {
		rows, all, depth, made int
		given                  bool
	}{
		{64, 64, 8, 8, true}, {64, 64, 8, 9, false}, {64, 64, 9, 8, false}, {64, 65, 8, 8, false}, {63, 65, 8, 8, true}, {9, 11, 372, 290, false}, {9, 11, 372, 289, true},
		{16, 4096, 1, 1, false}, {8, 4096, 1, 1, true}, {9, 4096, 1, 1, false}, {1, 4096, 1, 1, true}, {1, 1, 4096, 4096, true}, {2, 2, 2048, 2048, true}, {4, 4, 1024, 1024, true},
		{8, 8, 512, 512, true}, {9, 9, 455, 455, false}, {181, 181, 1, 1, true}, {182, 182, 1, 1, false}, {4096, 4096, 1, 1, false}, {181, 182, 1, 1, false}, {180, 182, 1, 1, true},
	}
	for _, row := range rows {
		q, k, v := of(row.rows, row.depth), of(row.all, row.depth), of(row.all, row.made)
		if got := impl.Attend(q, k, v, 5); isNoTensor(got) == row.given {
			t.Errorf("%v: %s", row, brief(got))
		}
		// What is compared number by number is kept small.
		if row.rows*row.all*row.depth*row.made < 300000 {
			checkAttend(t, q, k, v, 5)
		}
	}
	lone := of(1, 1)
	for _, dims := range [][]int{nil, ints(1), ints(1, 1, 1), ints(1, 1, 1, 1)} {
		other := impl.Fill(dims, 1)
		checkNone(t, "Attend of other Dims", tensors(impl.Attend(other, lone, lone, 0), impl.Attend(lone, other, lone, 0), impl.Attend(lone, lone, other, 0), impl.Attend(other, other, other, 0)))
	}
	for _, bad := range append(wrongTensors(), tensorOf(ints(1, 1), impl.Prime), tensorOf(ints(1, 1), -1), tensorOf(ints(1, 1)), tensorOf(ints(1, 1), 1, 1), tensorOf(ints(0, 1)), tensorOf(ints(1, 0))) {
		checkNone(t, "Attend of wrong ones", tensors(impl.Attend(bad, lone, lone, 0), impl.Attend(lone, bad, lone, 0), impl.Attend(lone, lone, bad, 0), impl.Attend(bad, bad, bad, 0)))
	}
}

func rowsOf(rows ...[]int) [][]int { return rows }

func manyRows(count int, row ...int) [][]int {
	rows := make([][]int, count)
	for i := range rows {
		rows[i] = slices.Clone(row)
	}
	return rows
}

func cacheOf(keys [][]int, vals [][]int) impl.Cache { return impl.Cache{Keys: keys, Vals: vals} }

func sameRows(a [][]int, b [][]int) bool {
	return slices.EqualFunc(a, b, func(x []int, y []int) bool { return slices.Equal(x, y) })
}

func sameCache(a impl.Cache, b impl.Cache) bool {
	return sameRows(a.Keys, b.Keys) && sameRows(a.Vals, b.Vals)
}

func goodCaches() []impl.Cache {
	return []impl.Cache{
		{}, cacheOf([][]int{}, nil), cacheOf(rowsOf(ints(1)), rowsOf(ints(2))), cacheOf(rowsOf(ints(1, 2)), rowsOf(ints(3))), cacheOf(rowsOf(ints(1)), rowsOf(ints(2, 3, 4))),
		cacheOf(rowsOf(ints(1, 2), ints(3, 4)), rowsOf(ints(5), ints(6))), cacheOf(rowsOf(ints(0)), rowsOf(ints(impl.Prime-1))), cacheOf(rowsOf(ints(impl.Prime-1)), rowsOf(ints(0))),
		cacheOf(manyRows(4096, 1), manyRows(4096, 2)), cacheOf(manyRows(4096, 1, 2), manyRows(4096, 2)), cacheOf(rowsOf(make([]int, 4096)), rowsOf(make([]int, 4096))),
		cacheOf(rowsOf(make([]int, 4096), make([]int, 4096)), rowsOf(ints(1), ints(2))), cacheOf(rowsOf(ints(1), ints(2)), rowsOf(make([]int, 4096), make([]int, 4096))),
	}
}

func wrongCaches() []impl.Cache {
	out := []impl.Cache{
		cacheOf(rowsOf(ints(1)), nil), cacheOf(nil, rowsOf(ints(1))), cacheOf(rowsOf(ints(1), ints(2)), rowsOf(ints(1))), cacheOf(rowsOf(ints(1)), rowsOf(ints(1), ints(2))),
		cacheOf(rowsOf(ints(1), ints(1, 2)), rowsOf(ints(1), ints(2))), cacheOf(rowsOf(ints(1), ints(2)), rowsOf(ints(1), ints(1, 2))), cacheOf(rowsOf(ints(1, 2), ints(1)), rowsOf(ints(1), ints(2))),
		cacheOf(rowsOf(ints(1), ints(2)), rowsOf(ints(1, 2), ints(1))), cacheOf(rowsOf(ints(1), ints(2), ints(1, 2)), rowsOf(ints(1), ints(2), ints(3))),
		cacheOf(rowsOf(ints()), rowsOf(ints(1))), cacheOf(rowsOf(ints(1)), rowsOf(ints())), cacheOf(rowsOf(nil), rowsOf(nil)), cacheOf(rowsOf(ints(1), nil), rowsOf(ints(1), ints(1))),
		cacheOf(rowsOf(ints(1), ints(1)), rowsOf(ints(1), nil)), cacheOf(manyRows(4097, 1), manyRows(4097, 2)), cacheOf(manyRows(4097, 1), manyRows(4096, 2)),
		cacheOf(rowsOf(make([]int, 4097)), rowsOf(ints(1))), cacheOf(rowsOf(ints(1)), rowsOf(make([]int, 4097))),
	}
	for _, x := range []int{-1, impl.Prime, impl.Prime + 1, math.MinInt, math.MaxInt} {
		out = append(out, cacheOf(rowsOf(ints(x)), rowsOf(ints(1))), cacheOf(rowsOf(ints(1)), rowsOf(ints(x))), cacheOf(rowsOf(ints(1, 1), ints(1, x)), rowsOf(ints(1), ints(1))), cacheOf(rowsOf(ints(1), ints(1)), rowsOf(ints(1, 1), ints(x, 1))))
	}
	return out
}

func TestCacheOk(t *testing.T) {
	for i, c := range goodCaches() {
		if !impl.CacheOk(c) {
			t.Errorf("row %d is not CacheOk", i)
		}
	}
	for i, c := range wrongCaches() {
		if impl.CacheOk(c) {
			t.Errorf("wrong row %d is CacheOk", i)
		}
	}
}

// nextCase is what AttendNext is asked.
type nextCase struct {
	c       impl.Cache
	q, k, v []int
	window  int
}

func checkRefused(t *testing.T, name string, i int, n nextCase) {
	t.Helper()
	if c, made, ok := impl.AttendNext(n.c, n.q, n.k, n.v, n.window); ok || len(made) != 0 || len(c.Keys) != 0 || len(c.Vals) != 0 {
		t.Errorf("%s, row %d: %d and %d rows, %d numbers, %v", name, i, len(c.Keys), len(c.Vals), len(made), ok)
	}
}

func rowTensor(row []int) impl.Tensor { return tensorOf(ints(1, len(row)), row...) }

func TestAttendNextRows(t *testing.T) {
	two := cacheOf(rowsOf(ints(1), ints(2)), rowsOf(ints(3, 1), ints(5, 0)))
	a, b := twoThatSumTo0(t)
	rows := []struct {
		n    nextCase
		want impl.Cache
		made []int
	}{
		{nextCase{impl.Cache{}, ints(1), ints(2), ints(7), 0}, cacheOf(rowsOf(ints(2)), rowsOf(ints(7))), ints(7)},
		{nextCase{impl.Cache{}, ints(1, 2), ints(2, 3), ints(7, 8, 9), 1}, cacheOf(rowsOf(ints(2, 3)), rowsOf(ints(7, 8, 9))), ints(7, 8, 9)},
		{nextCase{impl.Cache{}, ints(1), ints(2), ints(7), 4096}, cacheOf(rowsOf(ints(2)), rowsOf(ints(7))), ints(7)},
		{nextCase{two, ints(0), ints(9), ints(1, 2), 0}, cacheOf(rowsOf(ints(1), ints(2), ints(9)), rowsOf(ints(3, 1), ints(5, 0), ints(1, 2))), ints(3, 1)},
		{nextCase{two, ints(0), ints(9), ints(1, 2), 3}, cacheOf(rowsOf(ints(1), ints(2), ints(9)), rowsOf(ints(3, 1), ints(5, 0), ints(1, 2))), ints(3, 1)},
		{nextCase{two, ints(0), ints(9), ints(1, 2), 4}, cacheOf(rowsOf(ints(1), ints(2), ints(9)), rowsOf(ints(3, 1), ints(5, 0), ints(1, 2))), ints(3, 1)},
		{nextCase{two, ints(0), ints(9), ints(1, 2), 2}, cacheOf(rowsOf(ints(2), ints(9)), rowsOf(ints(5, 0), ints(1, 2))), ints(3, 1)},
		{nextCase{two, ints(0), ints(9), ints(1, 2), 1}, cacheOf(rowsOf(ints(9)), rowsOf(ints(1, 2))), ints(1, 2)},
		{nextCase{two, ints(1), ints(impl.Prime - 1), ints(1, 2), 2}, cacheOf(rowsOf(ints(2), ints(impl.Prime-1)), rowsOf(ints(5, 0), ints(1, 2))), ints(impl.Over(27, 7), impl.Over(4, 7))},
		{nextCase{cacheOf(rowsOf(ints(a)), rowsOf(ints(3))), ints(1), ints(b), ints(4), 0}, cacheOf(rowsOf(ints(a), ints(b)), rowsOf(ints(3), ints(4))), ints(0)},
		{nextCase{impl.Cache{}, make([]int, 4096), make([]int, 4096), make([]int, 4096), 0}, cacheOf(rowsOf(make([]int, 4096)), rowsOf(make([]int, 4096))), make([]int, 4096)},
	}
	for i, row := range rows {
		c, made, ok := impl.AttendNext(row.n.c, row.n.q, row.n.k, row.n.v, row.n.window)
		if !ok || !sameCache(c, row.want) || !slices.Equal(made, row.made) {
			t.Errorf("row %d: %v, %v, %v", i, c, made, ok)
		}
	}
}

func TestAttendNextRefuses(t *testing.T) {
	two := cacheOf(rowsOf(ints(1, 1), ints(2, 2)), rowsOf(ints(3), ints(5)))
	if _, _, ok := impl.AttendNext(two, ints(1, 2), ints(3, 4), ints(5), 1); !ok {
		t.Fatal("the row beside them")
	}
	wrong := []nextCase{
		{two, ints(1, 2), ints(3), ints(5), 1}, {two, ints(1), ints(3), ints(5), 1}, {two, ints(1, 2), ints(3, 4, 5), ints(5), 1}, {two, ints(1, 2, 3), ints(3, 4, 5), ints(5), 1},
		{two, ints(1, 2), ints(3, 4), ints(5, 6), 1}, {two, ints(1, 2), ints(3, 4), ints(), 1}, {two, ints(1, 2), ints(), ints(5), 1}, {two, ints(), ints(3, 4), ints(5), 1},
		{two, ints(), ints(), ints(5), 1}, {two, ints(1), ints(3, 4), ints(5), 1}, {two, ints(1, 2, 3), ints(3, 4), ints(5), 1}, {two, nil, nil, nil, 0},
		{two, ints(1, 2), ints(3), ints(5), 0}, {two, ints(1), ints(3), ints(5), 0}, {two, ints(1, 2), ints(3, 4), ints(5, 6), 0},
		{impl.Cache{}, nil, nil, nil, 0}, {impl.Cache{}, nil, nil, ints(1), 0}, {impl.Cache{}, ints(1), ints(1), nil, 0}, {impl.Cache{}, nil, ints(1), ints(1), 0}, {impl.Cache{}, ints(1), nil, ints(1), 1},
		{impl.Cache{}, ints(1), ints(1, 2), ints(1), 1}, {impl.Cache{}, ints(1, 2), ints(1), ints(1), 1},
		{impl.Cache{}, make([]int, 4097), make([]int, 4097), ints(1), 1}, {impl.Cache{}, make([]int, 4096), make([]int, 4096), make([]int, 4097), 1}, {impl.Cache{}, make([]int, 4097), make([]int, 4096), ints(1), 1},
		{cacheOf(rowsOf(make([]int, 4096)), rowsOf(ints(1))), make([]int, 4096), make([]int, 4096), ints(1), 0},
		{cacheOf(rowsOf(make([]int, 4096)), rowsOf(ints(1))), make([]int, 4096), make([]int, 4096), ints(1), 2},
		{cacheOf(rowsOf(ints(1)), rowsOf(make([]int, 4096))), ints(1), ints(1), make([]int, 4096), 0},
		{cacheOf(rowsOf(ints(1)), rowsOf(make([]int, 2049))), ints(1), ints(1), make([]int, 2049), 2},
		{cacheOf(rowsOf(make([]int, 2049)), rowsOf(ints(1))), make([]int, 2049), make([]int, 2049), ints(1), 2},
	}
	for _, window := range []int{-1, -2, -4096, 4097, 1 << 32, math.MinInt, math.MinInt + 1, math.MaxInt} {
		wrong = append(wrong, nextCase{two, ints(1, 2), ints(3, 4), ints(5), window}, nextCase{impl.Cache{}, ints(1, 2), ints(3, 4), ints(5), window})
	}
	for _, x := range []int{-1, impl.Prime, impl.Prime + 1, math.MinInt, math.MaxInt} {
		wrong = append(wrong, nextCase{two, ints(1, x), ints(3, 4), ints(5), 1}, nextCase{two, ints(1, 2), ints(x, 4), ints(5), 1}, nextCase{two, ints(1, 2), ints(3, 4), ints(x), 1},
			nextCase{impl.Cache{}, ints(1, x), ints(3, 4), ints(5), 0}, nextCase{impl.Cache{}, ints(1, 2), ints(3, x), ints(5), 0}, nextCase{impl.Cache{}, ints(1, 2), ints(3, 4), ints(5, x), 0})
	}
	for i, n := range wrong {
		checkRefused(t, "AttendNext", i, n)
	}
	// A cache that is wrong is refused though what is wrong would be dropped.
	for i, c := range wrongCaches() {
		for _, window := range []int{0, 1, 2} {
			checkRefused(t, "AttendNext of wrong caches", i, nextCase{c, ints(1), ints(1), ints(1), window})
			checkRefused(t, "AttendNext of wrong caches", i, nextCase{c, ints(1, 2), ints(1, 2), ints(1), window})
		}
	}
}

// A cache may have more than a tensor can: what counts is what is kept.
func TestAttendNextAtMaxSizeRows(t *testing.T) {
	full, less := cacheOf(manyRows(4096, 1), manyRows(4096, 2)), cacheOf(manyRows(4095, 1), manyRows(4095, 2))
	rows := []struct {
		c      impl.Cache
		window int
		kept   int
	}{
		{full, 0, 0}, {full, 4096, 4096}, {full, 4095, 4095}, {full, 1, 1}, {less, 0, 4096}, {less, 4096, 4096}, {less, 4095, 4095}, {less, 2, 2},
	}
	for i, row := range rows {
		n := nextCase{row.c, ints(1), ints(1), ints(9), row.window}
		if row.kept == 0 {
			checkRefused(t, "AttendNext", i, n)
			continue
		}
		c, made, ok := impl.AttendNext(n.c, n.q, n.k, n.v, n.window)
		want := cacheOf(manyRows(row.kept, 1), append(manyRows(row.kept-1, 2), ints(9)))
		if !ok || !sameCache(c, want) || !slices.Equal(made, ints(impl.Over(2*(row.kept-1)+9, row.kept))) {
			t.Errorf("row %d: %d rows, %v, %v", i, len(c.Keys), made, ok)
		}
	}
	broad := cacheOf(manyRows(100, make([]int, 100)...), manyRows(100, 1))
	k := make([]int, 100)
	checkRefused(t, "AttendNext of broad rows", 0, nextCase{broad, k, k, ints(1), 0})
	checkRefused(t, "AttendNext of broad rows", 1, nextCase{broad, k, k, ints(1), 41})
	if c, made, ok := impl.AttendNext(broad, k, k, ints(1), 40); !ok || len(c.Keys) != 40 || !slices.Equal(made, ints(1)) {
		t.Errorf("40 broad rows: %d, %v, %v", len(c.Keys), made, ok)
	}
}

// lastOf are the last rows of a tensor's first ones.
func lastOf(x impl.Tensor, upto int, window int) [][]int {
	rows := [][]int{}
	for i := range upto {
		if window == 0 || i >= upto-window {
			rows = append(rows, lineOf(x, 1, ints(i, 0)))
		}
	}
	return rows
}

// P16: AttendNext row by row is Attend, and keeps no more than the window.
func TestAttendNextRowByRowIsAttend(t *testing.T) {
	source := rand.New(rand.NewSource(59))
	for range 150 {
		all, depth, made := 1+source.Intn(7), 1+source.Intn(3), 1+source.Intn(3)
		q, k, v := randomTensor(source, ints(all, depth)), randomTensor(source, ints(all, depth)), randomTensor(source, ints(all, made))
		for _, window := range []int{0, 1, 2, 3, 5, 7, 4096} {
			want := checkAttend(t, q, k, v, window)
			c := impl.Cache{}
			for i := range all {
				next, row, ok := impl.AttendNext(c, lineOf(q, 1, ints(i, 0)), lineOf(k, 1, ints(i, 0)), lineOf(v, 1, ints(i, 0)), window)
				if !ok || !slices.Equal(row, lineOf(want, 1, ints(i, 0))) {
					t.Fatalf("row %d with window %d: %v, %v, not that of %s", i, window, row, ok, brief(want))
				}
				if window > 0 && (len(next.Keys) > window || len(next.Vals) > window) {
					t.Fatalf("%d and %d rows are kept, with window %d", len(next.Keys), len(next.Vals), window)
				}
				if !impl.CacheOk(next) || !sameCache(next, cacheOf(lastOf(k, i+1, window), lastOf(v, i+1, window))) {
					t.Fatalf("row %d with window %d: %v is kept", i, window, next)
				}
				c = next
			}
		}
	}
}

// The window may change from call to call: the outcome is that of what is kept.
func TestAttendNextOfAnyCache(t *testing.T) {
	source := rand.New(rand.NewSource(60))
	for range 300 {
		depth, made := 1+source.Intn(3), 1+source.Intn(3)
		c := impl.Cache{}
		for range source.Intn(6) {
			c.Keys = append(c.Keys, randomTensor(source, ints(depth)).Data)
			c.Vals = append(c.Vals, randomTensor(source, ints(made)).Data)
		}
		q, k, v := randomTensor(source, ints(depth)).Data, randomTensor(source, ints(depth)).Data, randomTensor(source, ints(made)).Data
		window := source.Intn(8)
		next, row, ok := impl.AttendNext(c, q, k, v, window)
		keys, vals := append(slices.Clone(c.Keys), k), append(slices.Clone(c.Vals), v)
		if window > 0 && len(keys) > window {
			keys, vals = keys[len(keys)-window:], vals[len(vals)-window:]
		}
		want := wantAttend(rowTensor(q), tensorOf(ints(len(keys), depth), slices.Concat(keys...)...), tensorOf(ints(len(vals), made), slices.Concat(vals...)...), window)
		if !ok || !sameCache(next, cacheOf(keys, vals)) || !slices.Equal(row, want.Data) {
			t.Fatalf("AttendNext(%v, %v, %v, %v, %d) = %v, %v, %v", c, q, k, v, window, next, row, ok)
		}
	}
}

func TestLayerListsAreLeftAlone(t *testing.T) {
	lists := func(x impl.Tensor) [][]int { return [][]int{x.Dims, x.Data} }
	calls := map[string]func(x impl.Tensor, w impl.Tensor) [][]int{
		"Conv":      func(x, w impl.Tensor) [][]int { return lists(impl.Conv(x, w, 1, 0, 1, 1)) },
		"Conv, pad": func(x, w impl.Tensor) [][]int { return lists(impl.Conv(x, w, 2, 1, 1, 1)) },
		"MaxPool":   func(x, w impl.Tensor) [][]int { return lists(impl.MaxPool(x, 1, 1)) },
		"SumPool":   func(x, w impl.Tensor) [][]int { return lists(impl.SumPool(x, 2, 1)) },
		"Normalise": func(x, w impl.Tensor) [][]int { return lists(impl.Normalise(x, 2, 1)) },
	}
	for name, call := range calls {
		checkAlone(t, name, [][]int{ints(1, 1, 2, 2), ints(1, 2, 3, 4), ints(1, 1, 1, 1), ints(1)}, func(given [][]int) [][]int {
			return call(impl.Tensor{Dims: given[0], Data: given[1]}, impl.Tensor{Dims: given[2], Data: given[3]})
		})
	}
	checkAlone(t, "Attend", [][]int{ints(2, 1), ints(1, 2), ints(2, 1), ints(3, 4), ints(2, 2), ints(5, 6, 7, 8)}, func(given [][]int) [][]int {
		q, k := impl.Tensor{Dims: given[0], Data: given[1]}, impl.Tensor{Dims: given[2], Data: given[3]}
		return lists(impl.Attend(q, k, impl.Tensor{Dims: given[4], Data: given[5]}, 1))
	})
}

func TestAttendNextListsAreLeftAlone(t *testing.T) {
	for _, window := range []int{0, 1, 2, 3} {
		checkAlone(t, "AttendNext", [][]int{ints(1, 2), ints(3, 4), ints(5), ints(6), ints(7, 8), ints(9, 10), ints(11)}, func(given [][]int) [][]int {
			keys, vals := append(make([][]int, 0, 8), given[0], given[1]), append(make([][]int, 0, 8), given[2], given[3])
			c := cacheOf(keys, vals)
			next, made, ok := impl.AttendNext(c, given[4], given[5], given[6], window)
			if !ok || !sameCache(c, cacheOf(rowsOf(given[0], given[1]), rowsOf(given[2], given[3]))) {
				t.Fatalf("window %d: %v, the cache is %v", window, ok, c)
			}
			for _, rows := range [][][]int{keys[:8], vals[:8]} {
				for _, row := range rows[2:] {
					if row != nil {
						t.Fatalf("window %d: %v was written behind the rows", window, row)
					}
				}
			}
			return slices.Concat(next.Keys, next.Vals, rowsOf(made))
		})
		// One list for all that is handed in is not one list in what comes back.
		checkAlone(t, "AttendNext of one list", [][]int{ints(1, 2)}, func(given [][]int) [][]int {
			one := given[0]
			next, made, ok := impl.AttendNext(cacheOf(rowsOf(one, one), rowsOf(one, one)), one, one, one, window)
			if !ok {
				t.Fatal("it was refused")
			}
			return slices.Concat(next.Keys, next.Vals, rowsOf(made))
		})
	}
	// The lists of rows are new ones too.
	rows := rowsOf(ints(1), ints(2), ints(3))
	next, _, _ := impl.AttendNext(cacheOf(rows[:2], rows[:2]), ints(1), ints(4), ints(5), 2)
	next.Keys[0], next.Keys[1] = ints(8), ints(9)
	if !sameRows(rows, rowsOf(ints(1), ints(2), ints(3))) || !sameRows(next.Vals, rowsOf(ints(2), ints(5))) {
		t.Errorf("the rows are %v, those of Vals %v", rows, next.Vals)
	}
}

// What lies behind a list's length is not read.
func TestRoomBehindLayerListsIsNotRead(t *testing.T) {
	dims, data := ints(1, 1, 1, 1, 1), ints(1, 2)
	short := impl.Tensor{Dims: dims[:3], Data: data[:1]}
	lone := impl.Tensor{Dims: dims[:4], Data: data[:1]}
	empty := impl.Tensor{Dims: dims[:4], Data: data[:0]}
	checkNone(t, "Conv", tensors(impl.Conv(short, lone, 1, 0, 1, 1), impl.Conv(lone, short, 1, 0, 1, 1), impl.Conv(empty, lone, 1, 0, 1, 1), impl.Conv(lone, empty, 1, 0, 1, 1)))
	checkNone(t, "pools", tensors(impl.MaxPool(impl.Tensor{Dims: dims[:1], Data: data[:1]}, 1, 1), impl.SumPool(empty, 1, 1), impl.Normalise(short, 3, 0)))
	rows := rowsOf(ints(1), ints(2), ints(3))
	if impl.CacheOk(cacheOf(rows[:1], rows[:0])) || !impl.CacheOk(cacheOf(rows[:1], rows[2:])) {
		t.Error("a row was read behind the list")
	}
	row := ints(1, -1)
	if !impl.CacheOk(cacheOf(rowsOf(row[:1]), rowsOf(row[:1]))) || impl.CacheOk(cacheOf(rowsOf(row[:0]), rowsOf(row[:1]))) {
		t.Error("a number was read behind the row")
	}
	if _, made, ok := impl.AttendNext(impl.Cache{}, row[:1], row[:1], row[:1], 0); !ok || !slices.Equal(made, ints(1)) {
		t.Errorf("AttendNext of rows with room behind = %v, %v", made, ok)
	}
	checkRefused(t, "AttendNext", 0, nextCase{cacheOf(rows[:1], rows[:1]), row[:0], row[:1], row[:1], 0})
}

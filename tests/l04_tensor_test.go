package tests

import (
	"math"
	"math/big"
	"math/rand"
	"regexp"
	"slices"
	"strconv"
	"strings"
	"testing"

	"loop.example/g00033/impl"
)

// turnsAt is the greatest number that Signed leaves above 0.
const turnsAt = (impl.Prime - 1) / 2

func tensorOf(dims []int, data ...int) impl.Tensor { return impl.Tensor{Dims: dims, Data: data} }

func tensors(ts ...impl.Tensor) []impl.Tensor { return ts }

func sameTensor(a impl.Tensor, b impl.Tensor) bool {
	return slices.Equal(a.Dims, b.Dims) && slices.Equal(a.Data, b.Data)
}

func isNoTensor(t impl.Tensor) bool { return len(t.Dims) == 0 && len(t.Data) == 0 }

func checkTensor(t *testing.T, what string, got impl.Tensor, want impl.Tensor) {
	t.Helper()
	if !sameTensor(got, want) {
		t.Fatalf("%s = %s, not %s", what, brief(got), brief(want))
	}
}

// brief keeps the reports of great tensors short.
func brief(t impl.Tensor) string {
	shown := ""
	for _, x := range t.Data[:min(len(t.Data), 40)] {
		shown += " " + strconv.Itoa(x)
	}
	dims := ""
	for _, length := range t.Dims {
		dims += " " + strconv.Itoa(length)
	}
	return "{[" + dims + " ] " + strconv.Itoa(len(t.Data)) + " numbers:" + shown + "}"
}

type tensorCase struct {
	got  impl.Tensor
	want impl.Tensor
}

func checkTensorCases(t *testing.T, name string, cases []tensorCase) {
	t.Helper()
	for i, c := range cases {
		if !sameTensor(c.got, c.want) {
			t.Errorf("%s, row %d: %s, not %s", name, i, brief(c.got), brief(c.want))
		}
	}
}

// checkNone wants no tensor of each of these.
func checkNone(t *testing.T, name string, got []impl.Tensor) {
	t.Helper()
	for i, a := range got {
		if !isNoTensor(a) {
			t.Errorf("%s, row %d: %s, not no tensor", name, i, brief(a))
		}
	}
}

// wantTensorOk says what the document says of TensorOk.
func wantTensorOk(t impl.Tensor) bool {
	if !wantDims(t.Dims) {
		return false
	}
	count := 1
	for _, length := range t.Dims {
		count *= length
	}
	if len(t.Data) != count {
		return false
	}
	for _, x := range t.Data {
		if x < 0 || x > 2147483646 {
			return false
		}
	}
	return true
}

// built makes the tensor that has f of an index there; no tensor when dims are
// no dims.
func built(dims []int, f func(index []int) int) impl.Tensor {
	if !wantDims(dims) {
		return impl.Tensor{}
	}
	out := impl.Tensor{Dims: slices.Clone(dims)}
	for _, index := range indexesOf(dims) {
		out.Data = append(out.Data, f(index))
	}
	return out
}

// numberAt finds the number of an index by counting.
func numberAt(t impl.Tensor, index []int) int {
	place := 0
	for axis, length := range t.Dims {
		place = place*length + index[axis]
	}
	return t.Data[place]
}

func hasAxis(t impl.Tensor, axis int) bool {
	return wantTensorOk(t) && axis >= 0 && axis < len(t.Dims)
}

// signedOf and moduloPrime are reckoned apart from the program.
func signedOf(x int) int {
	if x > turnsAt {
		return x - impl.Prime
	}
	return x
}

func moduloPrime(sum int) int { return exact(wide(sum)) }

func tensorNumbers() []int {
	return []int{0, 1, 2, 3, 32767, 32768, turnsAt - 1, turnsAt, turnsAt + 1, turnsAt + 2, impl.Prime - 3, impl.Prime - 2, impl.Prime - 1}
}

func randomNumber(source *rand.Rand) int {
	edges := tensorNumbers()
	switch source.Intn(3) {
	case 0:
		return edges[source.Intn(len(edges))]
	case 1:
		return source.Intn(4)
	}
	return source.Intn(impl.Prime)
}

func randomTensor(source *rand.Rand, dims []int) impl.Tensor {
	return built(dims, func([]int) int { return randomNumber(source) })
}

func randomDims(source *rand.Rand, rank int, longest int) []int {
	dims := make([]int, rank)
	for axis := range dims {
		dims[axis] = 1 + source.Intn(longest)
	}
	return dims
}

func someTensors(count int, seed int64) []impl.Tensor {
	source := rand.New(rand.NewSource(seed))
	out := make([]impl.Tensor, count)
	for i := range out {
		out[i] = randomTensor(source, randomDims(source, source.Intn(7), 3))
	}
	return out
}

func edgeTensors() []impl.Tensor {
	source := rand.New(rand.NewSource(40))
	out := tensors(
		tensorOf(nil, 0), tensorOf(ints(), impl.Prime-1), tensorOf(ints(1), 7), tensorOf(ints(1, 1, 1, 1, 1, 1), impl.Prime-2),
		tensorOf(ints(2, 3), 1, 2, 3, 4, 5, 6), tensorOf(ints(4), 5, 5, 5, 5), tensorOf(ints(13), tensorNumbers()...),
	)
	for _, dims := range [][]int{ints(4096), ints(64, 64), ints(4096, 1), ints(1, 4096), ints(4, 4, 4, 4, 4, 4), ints(2, 1, 3), ints(1, 5), ints(5, 1)} {
		out = append(out, randomTensor(source, dims))
	}
	return out
}

func goodTensors() []impl.Tensor { return append(edgeTensors(), someTensors(40, 41)...) }

func wrongTensors() []impl.Tensor {
	six := func(x int, at int) impl.Tensor {
		return tensorOf(ints(2, 3), replaced(ints(1, 2, 3, 4, 5, 6), at, x)...)
	}
	noughts := func(count int) []int { return make([]int, count) }
	out := tensors(
		impl.Tensor{}, tensorOf(ints()), tensorOf(nil, 1, 2), tensorOf(ints(), -1), tensorOf(nil, impl.Prime),
		tensorOf(ints(1)), tensorOf(ints(1), 1, 2), tensorOf(ints(2, 3), 1, 2, 3, 4, 5), tensorOf(ints(2, 3), 1, 2, 3, 4, 5, 6, 7),
		tensorOf(ints(2, 3)), tensorOf(ints(0)), tensorOf(ints(0), 1), tensorOf(ints(2, 0)), tensorOf(ints(-1), 1), tensorOf(ints(-1, -1), 1),
		tensorOf(ints(-2, -3), 1, 2, 3, 4, 5, 6), tensorOf(ints(4097), noughts(4097)...), tensorOf(ints(64, 65), noughts(4160)...),
		tensorOf(ints(4096), noughts(4095)...), tensorOf(ints(4096), noughts(4097)...), tensorOf(ints(4096, 2), noughts(8192)...),
		tensorOf(ints(1, 1, 1, 1, 1, 1, 1), 1), tensorOf(ints(1<<32, 1<<32)), tensorOf(ints(math.MinInt)), tensorOf(ints(math.MaxInt), 1),
		tensorOf(ints(math.MinInt, 2)), tensorOf(ints(4096), append(noughts(4095), impl.Prime)...), tensorOf(ints(4096), append(noughts(4095), -1)...),
	)
	for _, x := range []int{-1, impl.Prime, impl.Prime + 1, -impl.Prime, math.MinInt, math.MaxInt} {
		out = append(out, six(x, 0), six(x, 3), six(x, 5))
	}
	return out
}

// axesFor are the axes to be asked of a tensor, right and wrong ones.
func axesFor(t impl.Tensor) []int {
	out := []int{math.MinInt, -1, len(t.Dims), len(t.Dims) + 1, math.MaxInt}
	for axis := range t.Dims {
		out = append(out, axis)
	}
	return out
}

func TestTensorLimits(t *testing.T) {
	if impl.MaxOperands != 6 || impl.MaxWork != 65536 {
		t.Error("the limits of chapter 4")
	}
	if impl.OneNeg != 1 || impl.OneInv != 2 || impl.OneStep != 3 || impl.OneRelu != 4 {
		t.Error("the ops of One")
	}
	if impl.TwoAdd != 1 || impl.TwoSub != 2 || impl.TwoMul != 3 || impl.TwoDiv != 4 || impl.TwoMax != 5 || impl.TwoMin != 6 || impl.TwoLess != 7 || impl.TwoSame != 8 {
		t.Error("the ops of Two")
	}
}

func TestTensorOk(t *testing.T) {
	for _, a := range goodTensors() {
		if !impl.TensorOk(a) || !wantTensorOk(a) {
			t.Errorf("TensorOk(%s) is false", brief(a))
		}
	}
	for _, a := range wrongTensors() {
		if impl.TensorOk(a) || wantTensorOk(a) {
			t.Errorf("TensorOk(%s) is true", brief(a))
		}
	}
	for _, x := range append(testInts(), viewInts()...) {
		if got := impl.TensorOk(tensorOf(nil, x)); got != (x >= 0 && x < 2147483647) {
			t.Errorf("TensorOk of the number %d alone is %v", x, got)
		}
		if got := impl.TensorOk(tensorOf(ints(x), 1, 2, 3)); got != (x == 3) {
			t.Errorf("TensorOk of 3 numbers and Dims of %d is %v", x, got)
		}
	}
}

// Whatever else it is asked, a function that is given a tensor that is not
// TensorOk gives no tensor.
func TestOfWrongTensorsComesNone(t *testing.T) {
	good := tensorOf(ints(2, 3), 1, 2, 3, 4, 5, 6)
	lone := tensorOf(ints(1), 1)
	for _, a := range wrongTensors() {
		got := tensors(
			impl.Look(a, impl.Whole(a.Dims)), impl.Look(a, impl.Whole(ints(6))), impl.Look(a, viewOf(nil, nil, 0, max(len(a.Data), 1))),
			impl.One(impl.OneNeg, a), impl.One(impl.OneRelu, a), impl.Two(impl.TwoAdd, a, a), impl.Two(impl.TwoMax, a, good),
			impl.Two(impl.TwoSame, good, a), impl.Two(impl.TwoLess, a, lone), impl.Two(impl.TwoMul, lone, a), impl.Two(impl.TwoAdd, a, tensorOf(nil, 1)),
			impl.Contract("->", tensors(a)), impl.Contract("a->a", tensors(a)), impl.Contract("ab->", tensors(a)), impl.Contract("ab->ab", tensors(a)),
			impl.Contract("ab,ab->", tensors(good, a)), impl.Contract("ab,cd->", tensors(a, good)), impl.Contract("abcdefg->", tensors(a)),
			impl.Gather(a, 0, ints(0)), impl.Scatter(a, 0, ints(0), 1), impl.Scatter(a, 0, ints(0, 1), 2), impl.Scatter(a, 0, nil, 1),
			impl.Scatter(a, 0, ints(), 3), impl.Concat(tensors(a), 0), impl.Concat(tensors(good, a), 0), impl.Concat(tensors(a, good), 0),
			impl.Pad(a, 0, 0, 0, 0), impl.Pad(a, 0, 1, 1, 1), impl.Fold(a, 0, 1, 4), impl.Fold(a, 0, 1, 1), impl.Scan(a, 0), impl.Scan(a, 1), impl.Top(a, 0), impl.Top(a, 1),
		)
		numbers, places := impl.Sorted(a, 0)
		got = append(got, numbers, places)
		checkNone(t, "of "+brief(a), got)
		if s := impl.ShowTensor(a); s != "" {
			t.Errorf("ShowTensor(%s) = %q", brief(a), s)
		}
	}
}

func TestFill(t *testing.T) {
	lists := [][]int{nil, ints(), ints(1), ints(2, 3), ints(4096), ints(64, 64), ints(4, 4, 4, 4, 4, 4), ints(1, 1, 1, 1, 1, 1)}
	for _, dims := range lists {
		for _, x := range testInts() {
			checkTensor(t, "Fill", impl.Fill(dims, x), built(dims, func([]int) int { return moduloPrime(x) }))
		}
	}
	checkTensorCases(t, "Fill", []tensorCase{
		{impl.Fill(nil, 5), tensorOf(nil, 5)}, {impl.Fill(ints(2), -1), tensorOf(ints(2), 2147483646, 2147483646)},
		{impl.Fill(ints(1), impl.Prime), tensorOf(ints(1), 0)}, {impl.Fill(ints(1), math.MaxInt), tensorOf(ints(1), 1)},
		{impl.Fill(ints(1), math.MinInt), tensorOf(ints(1), 2147483645)}, {impl.Fill(ints(1), impl.Prime-1), tensorOf(ints(1), impl.Prime-1)},
	})
	for _, a := range viewInts() {
		for _, b := range viewInts() {
			for _, dims := range [][]int{ints(a), ints(a, b), ints(a, 1, b, 1, 2, 1), ints(1, a, 1, b, 1, 1, 1)} {
				checkTensor(t, "Fill", impl.Fill(dims, 3), built(dims, func([]int) int { return 3 }))
			}
		}
	}
	checkNone(t, "Fill", tensors(impl.Fill(ints(4097), 1), impl.Fill(ints(64, 65), 1), impl.Fill(ints(0), 1), impl.Fill(make([]int, 1000), 1)))
}

// seenBy is what a view shows of a list, by the document's words.
func seenBy(t impl.Tensor, v impl.View) impl.Tensor {
	return built(v.Dims, func(index []int) int { return t.Data[placeIn(v, index)] })
}

func lineFor(source *rand.Rand, v impl.View) impl.Tensor { return randomTensor(source, ints(v.Base)) }

func TestLookAgainstWords(t *testing.T) {
	source := rand.New(rand.NewSource(42))
	for _, v := range goodViews() {
		a := lineFor(source, v)
		checkTensor(t, "Look", impl.Look(a, v), seenBy(a, v))
		for _, dims := range [][]int{ints(1, v.Base), ints(v.Base, 1, 1)} {
			checkTensor(t, "Look at other Dims", impl.Look(tensorOf(dims, a.Data...), v), seenBy(a, v))
		}
	}
	for _, a := range goodTensors() {
		checkTensor(t, "Look at the whole", impl.Look(a, impl.Whole(a.Dims)), a)
	}
}

func TestLookRows(t *testing.T) {
	a := tensorOf(ints(2, 3), 10, 11, 12, 13, 14, 15)
	checkTensorCases(t, "Look", []tensorCase{
		{impl.Look(a, impl.Whole(ints(6))), tensorOf(ints(6), 10, 11, 12, 13, 14, 15)},
		{impl.Look(a, impl.Permute(impl.Whole(ints(2, 3)), ints(1, 0))), tensorOf(ints(3, 2), 10, 13, 11, 14, 12, 15)},
		{impl.Look(a, viewOf(ints(2, 2), ints(0, 0), 5, 6)), tensorOf(ints(2, 2), 15, 15, 15, 15)},
		{impl.Look(a, viewOf(ints(6), ints(-1), 5, 6)), tensorOf(ints(6), 15, 14, 13, 12, 11, 10)},
		{impl.Look(a, viewOf(ints(2, 2), ints(0, -2), 4, 6)), tensorOf(ints(2, 2), 14, 12, 14, 12)},
		{impl.Look(a, viewOf(nil, nil, 3, 6)), tensorOf(nil, 13)},
		{impl.Look(a, viewOf(ints(1), ints(4096), 3, 6)), tensorOf(ints(1), 13)},
		{impl.Look(tensorOf(nil, 8), viewOf(ints(4096), ints(0), 0, 1)), impl.Fill(ints(4096), 8)},
		{impl.Look(tensorOf(nil, 8), viewOf(nil, nil, 0, 1)), tensorOf(nil, 8)},
	})
	checkNone(t, "Look", tensors(
		impl.Look(a, impl.View{}), impl.Look(a, impl.Whole(ints(5))), impl.Look(a, impl.Whole(ints(7))), impl.Look(a, viewOf(ints(5), ints(1), 0, 5)),
		impl.Look(a, viewOf(ints(5), ints(1), 0, 7)), impl.Look(a, viewOf(ints(7), ints(1), 0, 6)), impl.Look(a, viewOf(ints(6), ints(-1), 4, 6)),
		impl.Look(a, viewOf(nil, nil, 6, 6)), impl.Look(a, viewOf(nil, nil, -1, 6)), impl.Look(a, viewOf(ints(4097), ints(0), 0, 6)),
		impl.Look(a, viewOf(ints(1), ints(4097), 0, 6)), impl.Look(a, viewOf(ints(2), nil, 0, 6)), impl.Look(tensorOf(nil, 1), impl.View{}),
	))
}

func TestLookAtWrongViews(t *testing.T) {
	for _, v := range wrongViews() {
		for _, count := range []int{1, 6, min(max(v.Base, 1), 4096)} {
			if got := impl.Look(impl.Fill(ints(count), 1), v); !isNoTensor(got) {
				t.Errorf("Look at %v = %s", v, brief(got))
			}
		}
	}
	for _, v := range goodViews() {
		for _, count := range []int{v.Base - 1, v.Base + 1, 1, 4096} {
			if count != v.Base && !isNoTensor(impl.Look(impl.Fill(ints(count), 1), v)) {
				t.Errorf("Look of %d numbers at %v", count, v)
			}
		}
	}
}

// A viewTurn is one turn with all that says how, and what the document says of
// it.
type viewTurn struct {
	name string
	turn func(v impl.View) impl.View
	want func(v impl.View) *wantedTurn
}

// someTurns gives turns of which many fit a view of these dims.
func someTurns(source *rand.Rand, dims []int) []viewTurn {
	out := []viewTurn{}
	add := func(name string, turn func(v impl.View) impl.View, want func(v impl.View) *wantedTurn) {
		out = append(out, viewTurn{name, turn, want})
	}
	for axis, length := range dims {
		from, count, step := source.Intn(length), 1+source.Intn(length), source.Intn(5)-2
		add("Slice", func(v impl.View) impl.View { return impl.Slice(v, axis, from, count, step) },
			func(v impl.View) *wantedTurn { return wantSlice(v, axis, from, count, step) })
		size, skip := 1+source.Intn(length), 1+source.Intn(3)
		add("Windows", func(v impl.View) impl.View { return impl.Windows(v, axis, size, skip) },
			func(v impl.View) *wantedTurn { return wantWindows(v, axis, size, skip) })
		other := source.Intn(len(dims))
		add("Diagonal", func(v impl.View) impl.View { return impl.Diagonal(v, axis, other) },
			func(v impl.View) *wantedTurn { return wantDiagonal(v, axis, other) })
	}
	axes := source.Perm(len(dims))
	add("Permute", func(v impl.View) impl.View { return impl.Permute(v, axes) },
		func(v impl.View) *wantedTurn { return wantPermute(v, axes) })
	wider := slices.Clone(dims)
	for axis, length := range dims {
		if length == 1 {
			wider[axis] = 1 + source.Intn(3)
		}
	}
	if len(wider) < 6 {
		wider = append(ints(1+source.Intn(3)), wider...)
	}
	add("Spread", func(v impl.View) impl.View { return impl.Spread(v, wider) },
		func(v impl.View) *wantedTurn { return wantSpread(v, wider) })
	return out
}

// P6: what a turned view shows is the same turn of what the view showed.
func TestTurnedViewsShowTurns(t *testing.T) {
	source := rand.New(rand.NewSource(43))
	seen := map[string]int{}
	for _, v := range slices.Concat(edgeViews(), someViews(300, 44)) {
		a := lineFor(source, v)
		for _, turn := range someTurns(source, v.Dims) {
			w := turn.turn(v)
			shown := impl.Look(a, w)
			if isNoView(w) {
				checkTensor(t, turn.name+" that can't be", shown, impl.Tensor{})
				continue
			}
			seen[turn.name]++
			first := impl.Look(a, v)
			checkTensor(t, turn.name, shown, impl.Look(first, turn.turn(impl.Whole(v.Dims))))
			want := turn.want(v)
			checkTensor(t, turn.name+" by words", shown, built(want.dims, func(index []int) int { return numberAt(first, want.from(index)) }))
		}
	}
	for _, name := range []string{"Slice", "Windows", "Diagonal", "Permute", "Spread"} {
		if seen[name] < 100 {
			t.Errorf("%s came only %d times", name, seen[name])
		}
	}
}

// P6 for Reshape: the numbers stay as they stood, under other dims.
func TestReshapedViewsShowTheSame(t *testing.T) {
	source := rand.New(rand.NewSource(45))
	seen := 0
	for _, v := range slices.Concat(edgeViews(), someViews(60, 46)) {
		a := lineFor(source, v)
		first := impl.Look(a, v)
		for i, dims := range dimsOf(len(first.Data)) {
			if len(first.Data) > 500 && i%97 != 0 {
				continue
			}
			checkTensor(t, "Reshape of the whole", impl.Look(first, impl.Reshape(impl.Whole(v.Dims), dims)), tensorOf(dims, first.Data...))
			if w := impl.Reshape(v, dims); !isNoView(w) {
				seen++
				checkTensor(t, "Reshape", impl.Look(a, w), tensorOf(dims, first.Data...))
			}
		}
	}
	if seen < 1000 {
		t.Errorf("only %d reshaped", seen)
	}
}

// P6 with several turns, one after another.
func TestTurnsOfTurnsShowTurns(t *testing.T) {
	source := rand.New(rand.NewSource(47))
	for _, v := range someViews(200, 48) {
		a := lineFor(source, v)
		shown := impl.Look(a, v)
		for range 5 {
			turns := someTurns(source, v.Dims)
			turn := turns[source.Intn(len(turns))]
			w := turn.turn(v)
			if isNoView(w) {
				continue
			}
			shown = impl.Look(shown, turn.turn(impl.Whole(v.Dims)))
			v = w
			checkTensor(t, turn.name+" after others", impl.Look(a, v), shown)
		}
	}
}

func wantOne(op int, x int) (int, bool) {
	switch op {
	case 1:
		return moduloPrime(-x), true
	case 2:
		if x == 0 {
			return 0, true
		}
		return int(new(big.Int).ModInverse(wide(x), wide(2147483647)).Int64()), true
	case 3:
		if signedOf(x) > 0 {
			return 1, true
		}
		return 0, true
	case 4:
		if signedOf(x) > 0 {
			return x, true
		}
		return 0, true
	}
	return 0, false
}

func TestOneAgainstWords(t *testing.T) {
	for _, a := range goodTensors() {
		for _, op := range []int{math.MinInt, -1, 0, 1, 2, 3, 4, 5, 6, 8, 9, 1 << 32, 1<<32 + 1, math.MaxInt} {
			want := impl.Tensor{}
			if _, ok := wantOne(op, 0); ok {
				want = built(a.Dims, func(index []int) int { x, _ := wantOne(op, numberAt(a, index)); return x })
			}
			checkTensor(t, "One "+strconv.Itoa(op), impl.One(op, a), want)
		}
	}
}

func TestOneRows(t *testing.T) {
	a := tensorOf(ints(2, 3), 0, 1, 2, impl.Prime-1, turnsAt, turnsAt+1)
	checkTensorCases(t, "One", []tensorCase{
		{impl.One(impl.OneNeg, a), tensorOf(ints(2, 3), 0, impl.Prime-1, impl.Prime-2, 1, turnsAt+1, turnsAt)},
		{impl.One(impl.OneInv, a), tensorOf(ints(2, 3), 0, 1, turnsAt+1, impl.Prime-1, impl.Prime-2, 2)},
		{impl.One(impl.OneStep, a), tensorOf(ints(2, 3), 0, 1, 1, 0, 1, 0)},
		{impl.One(impl.OneRelu, a), tensorOf(ints(2, 3), 0, 1, 2, 0, turnsAt, 0)},
		{impl.One(0, a), impl.Tensor{}}, {impl.One(5, a), impl.Tensor{}}, {impl.One(-1, a), impl.Tensor{}},
		{impl.One(math.MinInt, a), impl.Tensor{}}, {impl.One(math.MaxInt, a), impl.Tensor{}}, {impl.One(1, impl.Tensor{}), impl.Tensor{}},
		{impl.One(impl.OneNeg, tensorOf(nil, 4)), tensorOf(nil, impl.Prime-4)},
	})
}

func wantTwo(op int, x int, y int) (int, bool) {
	when := func(holds bool) (int, bool) {
		if holds {
			return 1, true
		}
		return 0, true
	}
	switch op {
	case 1:
		return moduloPrime(x + y), true
	case 2:
		return moduloPrime(x - y), true
	case 3:
		return exact(new(big.Int).Mul(wide(x), wide(y))), true
	case 4:
		inverse, _ := wantOne(2, y)
		return exact(new(big.Int).Mul(wide(x), wide(inverse))), true
	case 5:
		if signedOf(x) > signedOf(y) {
			return x, true
		}
		return y, true
	case 6:
		if signedOf(x) > signedOf(y) {
			return y, true
		}
		return x, true
	case 7:
		return when(signedOf(x) < signedOf(y))
	case 8:
		return when(x == y)
	}
	return 0, false
}

// wantTwoOf reckons index by index what Two gives.
func wantTwoOf(op int, a impl.Tensor, b impl.Tensor) impl.Tensor {
	dims := wantJoint(a.Dims, b.Dims)
	if _, ok := wantTwo(op, 0, 0); !ok || !wantTensorOk(a) || !wantTensorOk(b) || len(dims) < max(len(a.Dims), len(b.Dims)) {
		return impl.Tensor{}
	}
	return built(dims, func(index []int) int {
		x, _ := wantTwo(op, spreadAt(a, index), spreadAt(b, index))
		return x
	})
}

// spreadAt is the number at an index of dims to which t can be spread.
func spreadAt(t impl.Tensor, index []int) int {
	index = slices.Clone(index[len(index)-len(t.Dims):])
	for axis, length := range t.Dims {
		if length == 1 {
			index[axis] = 0
		}
	}
	return numberAt(t, index)
}

// partners gives tensors whose Dims can often be joined with those of t.
func partners(source *rand.Rand, t impl.Tensor) []impl.Tensor {
	out := tensors(t, tensorOf(nil, randomNumber(source)))
	for range 4 {
		dims := slices.Clone(t.Dims[source.Intn(len(t.Dims)+1):])
		for axis := range dims {
			switch source.Intn(8) {
			case 0, 1, 2:
				dims[axis] = 1
			case 3:
				dims[axis] = 1 + source.Intn(3)
			}
		}
		for len(dims) < 6 && source.Intn(2) == 0 {
			dims = append(ints(1+source.Intn(3)), dims...)
		}
		if wantDims(dims) {
			out = append(out, randomTensor(source, dims))
		}
	}
	return out
}

func TestTwoAgainstWords(t *testing.T) {
	source := rand.New(rand.NewSource(49))
	joined, not := 0, 0
	for _, a := range goodTensors() {
		for _, b := range partners(source, a) {
			for op := -1; op <= 9; op++ {
				want := wantTwoOf(op, a, b)
				checkTensor(t, "Two "+strconv.Itoa(op)+" of "+brief(a)+" and "+brief(b), impl.Two(op, a, b), want)
				checkTensor(t, "Two "+strconv.Itoa(op)+" of "+brief(b)+" and "+brief(a), impl.Two(op, b, a), wantTwoOf(op, b, a))
				if op >= 1 && op <= 8 && isNoTensor(want) {
					not++
				} else if op >= 1 && op <= 8 {
					joined++
				}
			}
		}
	}
	if joined < 500 || not < 100 {
		t.Errorf("only %d joined, %d not", joined, not)
	}
}

func TestTwoOfEachPair(t *testing.T) {
	numbers := tensorNumbers()
	column, row := tensorOf(ints(len(numbers), 1), numbers...), tensorOf(ints(len(numbers)), numbers...)
	for op := 1; op <= 8; op++ {
		checkTensor(t, "Two "+strconv.Itoa(op), impl.Two(op, column, row), built(ints(len(numbers), len(numbers)), func(index []int) int {
			x, _ := wantTwo(op, numbers[index[0]], numbers[index[1]])
			return x
		}))
	}
}

func TestTwoRows(t *testing.T) {
	const last = impl.Prime - 1
	a := tensorOf(ints(2, 2), 1, 2, last, turnsAt)
	b := tensorOf(ints(2), 0, turnsAt+1)
	one, few := tensorOf(nil, 2), tensorOf(ints(3), 1, 2, 3)
	long, wide := impl.Fill(ints(4096), 1), impl.Fill(ints(64, 1), 1)
	checkTensorCases(t, "Two", []tensorCase{
		{impl.Two(impl.TwoAdd, a, b), tensorOf(ints(2, 2), 1, turnsAt+3, last, 0)},
		{impl.Two(impl.TwoSub, a, b), tensorOf(ints(2, 2), 1, turnsAt+2, last, last)},
		{impl.Two(impl.TwoSub, b, a), tensorOf(ints(2, 2), last, turnsAt-1, 1, 1)},
		{impl.Two(impl.TwoMul, a, b), tensorOf(ints(2, 2), 0, 1, 0, moduloPrime(turnsAt*(turnsAt+1)))},
		{impl.Two(impl.TwoDiv, a, b), tensorOf(ints(2, 2), 0, 4, 0, last)},
		{impl.Two(impl.TwoDiv, b, a), tensorOf(ints(2, 2), 0, impl.Over(turnsAt+1, 2), 0, last)},
		{impl.Two(impl.TwoMax, a, b), tensorOf(ints(2, 2), 1, 2, 0, turnsAt)},
		{impl.Two(impl.TwoMin, a, b), tensorOf(ints(2, 2), 0, turnsAt+1, last, turnsAt+1)},
		{impl.Two(impl.TwoLess, a, b), tensorOf(ints(2, 2), 0, 0, 1, 0)},
		{impl.Two(impl.TwoLess, b, a), tensorOf(ints(2, 2), 1, 1, 0, 1)},
		{impl.Two(impl.TwoLess, a, a), impl.Fill(ints(2, 2), 0)}, {impl.Two(impl.TwoSame, a, a), impl.Fill(ints(2, 2), 1)},
		{impl.Two(impl.TwoSame, a, b), impl.Fill(ints(2, 2), 0)},
		{impl.Two(impl.TwoMul, one, one), tensorOf(nil, 4)}, {impl.Two(impl.TwoAdd, one, few), tensorOf(ints(3), 3, 4, 5)},
		{impl.Two(impl.TwoSub, few, one), tensorOf(ints(3), last, 0, 1)}, {impl.Two(impl.TwoSub, one, few), tensorOf(ints(3), 1, 0, last)},
		{impl.Two(impl.TwoSub, tensorOf(ints(2, 1), 5, 7), tensorOf(ints(1, 3), 1, 2, 3)), tensorOf(ints(2, 3), 4, 3, 2, 6, 5, 4)},
		{impl.Two(impl.TwoSub, tensorOf(ints(1, 3), 1, 2, 3), tensorOf(ints(2, 1), 1, 0)), tensorOf(ints(2, 3), 0, 1, 2, 1, 2, 3)},
		{impl.Two(impl.TwoAdd, tensorOf(ints(1), 5), one), tensorOf(ints(1), 7)}, {impl.Two(impl.TwoAdd, one, tensorOf(ints(1, 1), 5)), tensorOf(ints(1, 1), 7)},
		{impl.Two(impl.TwoAdd, long, tensorOf(ints(1, 1, 1, 1, 1, 1), 1)), impl.Fill(ints(1, 1, 1, 1, 1, 4096), 2)},
		{impl.Two(impl.TwoAdd, wide, impl.Fill(ints(64), 1)), impl.Fill(ints(64, 64), 2)}, {impl.Two(impl.TwoAdd, long, long), impl.Fill(ints(4096), 2)},
	})
	checkNone(t, "Two", tensors(
		impl.Two(0, a, b), impl.Two(9, a, b), impl.Two(-1, a, b), impl.Two(math.MinInt, a, b), impl.Two(math.MaxInt, a, b),
		impl.Two(1, a, few), impl.Two(1, few, a), impl.Two(1, b, few), impl.Two(1, wide, impl.Fill(ints(65), 1)), impl.Two(1, long, impl.Fill(ints(2, 1), 1)),
		impl.Two(1, impl.Tensor{}, one), impl.Two(1, one, impl.Tensor{}), impl.Two(1, impl.Tensor{}, impl.Tensor{}),
		impl.Two(1, tensorOf(ints(2, 1), 1, 2), tensorOf(ints(3, 3), 1, 2, 3, 4, 5, 6, 7, 8, 9)),
	))
}

// P11: Two of two tensors is Two of them spread to their joint dims.
func TestTwoIsTwoOfSpread(t *testing.T) {
	source := rand.New(rand.NewSource(50))
	for _, a := range goodTensors() {
		for _, b := range partners(source, a) {
			joint := impl.Joint(a.Dims, b.Dims)
			wideA, wideB := impl.Look(a, impl.Spread(impl.Whole(a.Dims), joint)), impl.Look(b, impl.Spread(impl.Whole(b.Dims), joint))
			for op := 0; op <= 9; op++ {
				got := impl.Two(op, a, b)
				checkTensor(t, "Two "+strconv.Itoa(op), got, impl.Two(op, wideA, wideB))
				if len(joint) > 0 && op >= 1 && op <= 8 && !slices.Equal(got.Dims, joint) {
					t.Fatalf("Two has the Dims %v, not %v", got.Dims, joint)
				}
			}
		}
	}
}

var formText = regexp.MustCompile(`^[a-z]{0,6}(,[a-z]{0,6}){0,5}->[a-z]{0,6}$`)

// wantParts says what the document says of a form.
func wantParts(form string) ([]string, string, bool) {
	if !formText.MatchString(form) {
		return nil, "", false
	}
	ahead, outcome, _ := strings.Cut(form, "->")
	for i, letter := range outcome {
		if strings.ContainsRune(outcome[i+1:], letter) || !strings.ContainsRune(ahead, letter) {
			return nil, "", false
		}
	}
	return strings.Split(ahead, ","), outcome, true
}

func checkParts(t *testing.T, form string) {
	t.Helper()
	groups, outcome, ok := impl.Parts(form)
	wantGroups, wantOutcome, wantOk := wantParts(form)
	if !slices.Equal(groups, wantGroups) || outcome != wantOutcome || ok != wantOk {
		t.Fatalf("Parts(%q) = %q, %q, %v, not %q, %q, %v", form, groups, outcome, ok, wantGroups, wantOutcome, wantOk)
	}
}

func TestPartsOfShortTexts(t *testing.T) {
	const alphabet = "ab,->"
	texts := []string{""}
	for range 8 {
		var longer []string
		for _, s := range texts {
			checkParts(t, s)
			for i := range len(alphabet) {
				longer = append(longer, s+alphabet[i:i+1])
			}
		}
		texts = longer
	}
}

func TestPartsRows(t *testing.T) {
	rows := []struct {
		form    string
		groups  []string
		outcome string
	}{
		{"->", []string{""}, ""}, {",->", []string{"", ""}, ""}, {",,,,,->", []string{"", "", "", "", "", ""}, ""}, {"a->", []string{"a"}, ""},
		{"a->a", []string{"a"}, "a"}, {"ij,jk->ik", []string{"ij", "jk"}, "ik"}, {"az->za", []string{"az"}, "za"}, {"aa->a", []string{"aa"}, "a"},
		{",a,->a", []string{"", "a", ""}, "a"}, {"abcdef->fedcba", []string{"abcdef"}, "fedcba"}, {"a,b,c,d,e,f->abcdef", []string{"a", "b", "c", "d", "e", "f"}, "abcdef"},
		{"abcdef,ghijkl,mnopqr,stuvwx,yzabcd,zzzzzz->zyxwvu", []string{"abcdef", "ghijkl", "mnopqr", "stuvwx", "yzabcd", "zzzzzz"}, "zyxwvu"},
	}
	for _, row := range rows {
		groups, outcome, ok := impl.Parts(row.form)
		if !ok || outcome != row.outcome || !slices.Equal(groups, row.groups) {
			t.Errorf("Parts(%q) = %q, %q, %v", row.form, groups, outcome, ok)
		}
		checkParts(t, row.form)
	}
}

func TestPartsOfWhatIsNoForm(t *testing.T) {
	forms := []string{
		"", "-", ">", "a", "ab", ",", "a,b", "a-", "a>", "a-b", "a>b", "a->-", "a->>", "a-->", "a->a>", "->a", "a->b", "a->aa", "ab->aba", "ab->bb",
		"abcdefg->", "a,bcdefgh->", "abcdefg->a", ",,,,,,->", "a,b,c,d,e,f,g->", "abcdef,g->abcdefg", "a,b,c,d,e,f,g->a",
		"A->", "a->A", "A->A", "aB->a", " ->", "a ->", "a-> ", " a->a", "a->a ", "a, b->", "a->->", "a->a->a", "->->", "a->->a", "a->a->",
		"a->,", "a->a,b", "a,b->a,b", "1->", "a1->a", "a->1", "é->", "a->é", "\x00->", "a->\x00", "a\n->", "a->a\n", "`->`", "{->{", "a- >a", "a- >", "a=>a",
		"..->..", "a;b->", "[->", "@->@",
	}
	for _, form := range forms {
		groups, outcome, ok := impl.Parts(form)
		if ok || outcome != "" || len(groups) != 0 {
			t.Errorf("Parts(%q) = %q, %q, %v", form, groups, outcome, ok)
		}
	}
	for b := range 256 {
		letter := string([]byte{byte(b)})
		for _, form := range []string{letter + "->", "a" + letter + "->a", "a->" + letter, letter + "->" + letter, "ab-" + letter + "b", "ab" + letter + ">b", "ab" + letter + "b->"} {
			checkParts(t, form)
		}
	}
	for _, count := range []int{6, 7, 100000} {
		checkParts(t, strings.Repeat("a", count)+"->")
		checkParts(t, strings.Repeat(",", count-1)+"->")
		checkParts(t, "a->"+strings.Repeat("a", count))
		checkParts(t, strings.Repeat("->", count))
	}
}

// wantContract reckons the sum over all values of all letters by exact
// numbers.
func wantContract(form string, ts []impl.Tensor) impl.Tensor {
	groups, outcome, ok := wantParts(form)
	if !ok || len(groups) != len(ts) {
		return impl.Tensor{}
	}
	lengths := map[byte]int{}
	for i, a := range ts {
		if !wantTensorOk(a) || len(a.Dims) != len(groups[i]) {
			return impl.Tensor{}
		}
		for axis, length := range a.Dims {
			letter := groups[i][axis]
			if known, there := lengths[letter]; there && known != length {
				return impl.Tensor{}
			}
			lengths[letter] = length
		}
	}
	work, letters, all := big.NewInt(1), outcome, []int{}
	for letter := byte('a'); letter <= 'z'; letter++ {
		if length, there := lengths[letter]; there {
			work.Mul(work, wide(length))
			if !strings.Contains(outcome, string(letter)) {
				letters += string(letter)
			}
		}
	}
	for i := range len(letters) {
		all = append(all, lengths[letters[i]])
	}
	dims := all[:len(outcome)]
	if work.Cmp(big.NewInt(65536)) > 0 || !wantDims(dims) {
		return impl.Tensor{}
	}
	return summedUp(ts, groups, letters, all, dims)
}

func summedUp(ts []impl.Tensor, groups []string, letters string, all []int, dims []int) impl.Tensor {
	inner := indexesOf(all[len(dims):])
	return built(dims, func(index []int) int {
		sum := new(big.Int)
		for _, rest := range inner {
			values := append(slices.Clone(index), rest...)
			product := big.NewInt(1)
			for i, a := range ts {
				at := []int{}
				for k := range len(groups[i]) {
					at = append(at, values[strings.IndexByte(letters, groups[i][k])])
				}
				product.Mul(product, wide(numberAt(a, at)))
			}
			sum.Add(sum, product)
		}
		return exact(sum)
	})
}

// A formCase is a form with tensors that fit it.
type formCase struct {
	form string
	ts   []impl.Tensor
}

// randomForm takes letters of few lengths, so that the work is small.
func randomForm(source *rand.Rand) formCase {
	const alphabet = "azkbq"
	lengths := map[byte]int{}
	for i := range len(alphabet) {
		lengths[alphabet[i]] = 1 + source.Intn(3)
	}
	groups, used := []string{}, ""
	var c formCase
	for range 1 + source.Intn(4) {
		group, dims := "", []int{}
		for range source.Intn(5) {
			letter := alphabet[source.Intn(len(alphabet))]
			group += string(letter)
			dims = append(dims, lengths[letter])
			if !strings.Contains(used, string(letter)) {
				used += string(letter)
			}
		}
		groups = append(groups, group)
		c.ts = append(c.ts, randomTensor(source, dims))
	}
	outcome := ""
	for _, i := range source.Perm(len(used)) {
		if source.Intn(2) == 0 {
			outcome += used[i : i+1]
		}
	}
	c.form = strings.Join(groups, ",") + "->" + outcome
	return c
}

func TestContractAgainstWords(t *testing.T) {
	source := rand.New(rand.NewSource(51))
	for range 1500 {
		c := randomForm(source)
		want := wantContract(c.form, c.ts)
		if isNoTensor(want) {
			t.Fatalf("%q is no form", c.form)
		}
		checkTensor(t, "Contract "+c.form, impl.Contract(c.form, c.ts), want)
	}
}

// shuffled gives the form with its groups, and the tensors, in another order.
func (c formCase) shuffled(order []int) formCase {
	ahead, outcome, _ := strings.Cut(c.form, "->")
	groups := strings.Split(ahead, ",")
	var out formCase
	moved := []string{}
	for _, i := range order {
		moved = append(moved, groups[i])
		out.ts = append(out.ts, c.ts[i])
	}
	out.form = strings.Join(moved, ",") + "->" + outcome
	return out
}

// P9: Contract does not mind the order of its tensors.
func TestContractInAnyOrder(t *testing.T) {
	source := rand.New(rand.NewSource(52))
	cases := []formCase{
		{"a,b,c,d,e,f->", tensors(tensorOf(ints(1), 1), tensorOf(ints(2), 3, 4), tensorOf(ints(1), 5), tensorOf(ints(1), 7), tensorOf(ints(2), 8, 9), tensorOf(ints(1), 2))},
		{"ab,cd->", tensors(impl.Fill(ints(16, 16), 2), impl.Fill(ints(16, 16), 3))}, // just MaxWork
		{"a,b->", tensors(impl.Fill(ints(18), 1), impl.Fill(ints(3641), 1))},         // past it
		{"a,a->a", tensors(tensorOf(ints(2), 1, 2), tensorOf(ints(3), 1, 2, 3))},     // of two lengths
		{"a,b->", tensors(tensorOf(ints(2), 1, 2), tensorOf(ints(2), 1, impl.Prime))},
		{"a,b->ab", tensors(impl.Fill(ints(64), 1), impl.Fill(ints(65), 1))},
		{",a->a", tensors(tensorOf(nil, 5), tensorOf(ints(2), 1, 2))},
	}
	for range 500 {
		cases = append(cases, randomForm(source))
	}
	for _, c := range cases {
		want := impl.Contract(c.form, c.ts)
		for range 4 {
			moved := c.shuffled(source.Perm(len(c.ts)))
			checkTensor(t, "Contract "+c.form+" as "+moved.form, impl.Contract(moved.form, moved.ts), want)
		}
	}
}

func TestContractRows(t *testing.T) {
	a, b := tensorOf(ints(2, 3), 1, 2, 3, 4, 5, 6), tensorOf(ints(3), 1, 10, 100)
	square, one := tensorOf(ints(2, 2), 1, 2, 3, 4), tensorOf(nil, 5)
	minus := tensorOf(ints(2), impl.Prime-1, 1)
	lone := tensorOf(ints(1, 1, 1, 1, 1, 1), 2)
	checkTensorCases(t, "Contract", []tensorCase{
		{impl.Contract("ij,jk->ik", tensors(square, square)), tensorOf(ints(2, 2), 7, 10, 15, 22)},
		{impl.Contract("ij,j->i", tensors(a, b)), tensorOf(ints(2), 321, 654)}, {impl.Contract("ij->ji", tensors(a)), tensorOf(ints(3, 2), 1, 4, 2, 5, 3, 6)},
		{impl.Contract("ij->", tensors(a)), tensorOf(nil, 21)}, {impl.Contract("ij->i", tensors(a)), tensorOf(ints(2), 6, 15)},
		{impl.Contract("ij->j", tensors(a)), tensorOf(ints(3), 5, 7, 9)}, {impl.Contract("ij->ij", tensors(a)), a},
		{impl.Contract("ii->", tensors(square)), tensorOf(nil, 5)}, {impl.Contract("ii->i", tensors(square)), tensorOf(ints(2), 1, 4)},
		{impl.Contract("ii,i->i", tensors(square, minus)), tensorOf(ints(2), impl.Prime-1, 4)},
		{impl.Contract("i,j->ij", tensors(minus, b)), tensorOf(ints(2, 3), impl.Prime-1, impl.Prime-10, impl.Prime-100, 1, 10, 100)},
		{impl.Contract("i,j->ji", tensors(minus, b)), tensorOf(ints(3, 2), impl.Prime-1, 1, impl.Prime-10, 10, impl.Prime-100, 100)},
		{impl.Contract("->", tensors(one)), one}, {impl.Contract(",,,,,->", tensors(one, one, one, one, one, one)), tensorOf(nil, 15625)},
		{impl.Contract(",i->i", tensors(one, b)), tensorOf(ints(3), 5, 50, 500)}, {impl.Contract("i,i->", tensors(b, b)), tensorOf(nil, 10101)},
		{impl.Contract("iii->i", tensors(tensorOf(ints(2, 2, 2), 1, 2, 3, 4, 5, 6, 7, 8))), tensorOf(ints(2), 1, 8)},
		{impl.Contract("abcdef->fedcba", tensors(lone)), lone},
		{impl.Contract("abcdef,ghijkl,mnopqr,stuvwx,yzabcd,zzzzzz->zyxwvu", tensors(lone, lone, lone, lone, lone, lone)), tensorOf(ints(1, 1, 1, 1, 1, 1), 64)},
	})
	checkNone(t, "Contract", tensors(
		impl.Contract("", nil), impl.Contract("", tensors(one)), impl.Contract("->", nil), impl.Contract("->", tensors(one, one)), impl.Contract(",->", tensors(one)),
		impl.Contract("ij,j->i", tensors(a)), impl.Contract("ij,j->i", tensors(a, b, b)), impl.Contract("ij->", tensors(b)), impl.Contract("i->", tensors(a)),
		impl.Contract("->", tensors(b)), impl.Contract("i->", tensors(one)), impl.Contract("ii->", tensors(a)), impl.Contract("ij,i->", tensors(a, b)),
		impl.Contract("i,i->", tensors(minus, b)), impl.Contract("ij->k", tensors(a)), impl.Contract("ij->ii", tensors(a)), impl.Contract("IJ->", tensors(a)),
		impl.Contract("ij", tensors(a)), impl.Contract("i j->", tensors(a)), impl.Contract("ij->->", tensors(a)), impl.Contract("a,b,c,d,e,f,g->", tensors(b, b, b, b, b, b, b)),
		impl.Contract("i,j->", tensors(b, impl.Tensor{})), impl.Contract("i,->", tensors(b, impl.Tensor{})), impl.Contract("ij,jk->ik", tensors(a, a)),
		impl.Contract("abcdefg->", tensors(tensorOf(ints(1, 1, 1, 1, 1, 1, 1), 1))),
	))
}

func TestContractLimits(t *testing.T) {
	fill := func(dims ...int) impl.Tensor { return impl.Fill(dims, 1) }
	long := fill(4096)
	rows := []struct {
		form string
		ts   []impl.Tensor
		want impl.Tensor
	}{
		{"a,b->", tensors(fill(16), long), tensorOf(nil, 65536)}, {"a,b->", tensors(fill(17), long), impl.Tensor{}},
		{"a,b->", tensors(fill(18), fill(3641)), impl.Tensor{}}, // 65538, since 65537 is a prime
		{"ab,cd->", tensors(fill(16, 16), fill(16, 16)), tensorOf(nil, 65536)}, {"ab,cd->", tensors(fill(16, 16), fill(16, 17)), impl.Tensor{}},
		{"ab,cd->ab", tensors(fill(64, 64), fill(4, 4)), impl.Fill(ints(64, 64), 16)}, {"ab,cd->ab", tensors(fill(64, 64), fill(4, 5)), impl.Tensor{}},
		{"ab,bc->ac", tensors(fill(64, 16), fill(16, 64)), impl.Fill(ints(64, 64), 16)}, {"ab,bc->ac", tensors(fill(64, 17), fill(17, 64)), impl.Tensor{}},
		{"ab,bc->ac", tensors(fill(64, 2), fill(2, 65)), impl.Tensor{}}, {"ab,bc->", tensors(fill(64, 2), fill(2, 65)), tensorOf(nil, 8320)},
		{"aa,b->", tensors(fill(64, 64), fill(1024)), tensorOf(nil, 65536)}, {"aa,b->", tensors(fill(64, 64), fill(1025)), impl.Tensor{}},
		{"ab,c->", tensors(fill(4096, 1), fill(16)), tensorOf(nil, 65536)}, {"a,b->ab", tensors(fill(64), fill(64)), impl.Fill(ints(64, 64), 1)},
		{"a,b->ab", tensors(fill(64), fill(65)), impl.Tensor{}}, {"a,b->b", tensors(fill(16), long), impl.Fill(ints(4096), 16)},
		{"a,b,c,d,e,f->", tensors(long, long, long, long, long, long), impl.Tensor{}}, // 2 to the 72, which an int holds as 0
		{"abcdef,ghijkl,mnop->", tensors(fill(2, 2, 2, 2, 2, 2), fill(2, 2, 2, 2, 2, 2), fill(2, 2, 2, 2)), tensorOf(nil, 65536)},
		{"abcdef,ghijkl,mnopq->", tensors(fill(2, 2, 2, 2, 2, 2), fill(2, 2, 2, 2, 2, 2), fill(2, 2, 2, 2, 2)), impl.Tensor{}},
		{"abcdef,ghijkl,mnopqr,stuvwx,yz,abcdef->", tensors(fill(2, 2, 2, 2, 2, 2), fill(2, 2, 2, 2, 2, 2), fill(2, 2, 2, 2, 2, 2), fill(2, 2, 2, 2, 2, 2), fill(2, 2), fill(2, 2, 2, 2, 2, 2)), impl.Tensor{}},
		{"a,a,a,a,a,a->a", tensors(long, long, long, long, long, long), long}, {"a,a->", tensors(long, long), tensorOf(nil, 4096)},
	}
	for i, row := range rows {
		if got := impl.Contract(row.form, row.ts); !sameTensor(got, row.want) {
			t.Errorf("Contract, row %d: %s, not %s", i, brief(got), brief(row.want))
		}
	}
}

func TestContractOfWrong(t *testing.T) {
	source := rand.New(rand.NewSource(53))
	for range 400 {
		c := randomForm(source)
		i := source.Intn(len(c.ts))
		for _, a := range append(tensors(tensorOf(nil, 1), tensorOf(ints(4), 1, 2, 3, 4), tensorOf(ints(1, 2), 1, 2)), wrongTensors()[:12]...) {
			ts := slices.Clone(c.ts)
			ts[i] = a
			checkTensor(t, "Contract "+c.form, impl.Contract(c.form, ts), wantContract(c.form, ts))
		}
		checkNone(t, "Contract of too few or too many", tensors(impl.Contract(c.form, c.ts[1:]), impl.Contract(c.form, append(slices.Clone(c.ts), c.ts[0]))))
	}
}

func wantGather(t impl.Tensor, axis int, index []int) impl.Tensor {
	if !hasAxis(t, axis) {
		return impl.Tensor{}
	}
	for _, i := range index {
		if i < 0 || i >= t.Dims[axis] {
			return impl.Tensor{}
		}
	}
	return built(replaced(t.Dims, axis, len(index)), func(at []int) int { return numberAt(t, replaced(at, axis, index[at[axis]])) })
}

// addedUp makes the tensor in which each number of t was added where to says.
func addedUp(t impl.Tensor, dims []int, to func(index []int) []int) impl.Tensor {
	out := built(dims, func([]int) int { return 0 })
	if isNoTensor(out) {
		return out
	}
	for i, index := range indexesOf(t.Dims) {
		place := 0
		for axis, k := range to(index) {
			place = place*dims[axis] + k
		}
		out.Data[place] = moduloPrime(out.Data[place] + t.Data[i])
	}
	return out
}

func wantScatter(t impl.Tensor, axis int, index []int, n int) impl.Tensor {
	if !hasAxis(t, axis) || len(index) != t.Dims[axis] {
		return impl.Tensor{}
	}
	for _, i := range index {
		if i < 0 || i >= n {
			return impl.Tensor{}
		}
	}
	return addedUp(t, replaced(t.Dims, axis, n), func(at []int) []int { return replaced(at, axis, index[at[axis]]) })
}

func randomIndex(source *rand.Rand, count int, n int) []int {
	index := make([]int, count)
	for k := range index {
		index[k] = source.Intn(n)
	}
	return index
}

func TestGatherAndScatterAgainstWords(t *testing.T) {
	source := rand.New(rand.NewSource(54))
	for _, a := range goodTensors() {
		for _, axis := range axesFor(a) {
			length := 3
			if hasAxis(a, axis) {
				length = a.Dims[axis]
			}
			for _, count := range []int{0, 1, 2, length, length + 1} {
				index := randomIndex(source, count, length)
				checkTensor(t, "Gather", impl.Gather(a, axis, index), wantGather(a, axis, index))
				for _, x := range []int{-1, length, math.MinInt, math.MaxInt} {
					wrong := append(slices.Clone(index), x)
					checkTensor(t, "Gather out of range", impl.Gather(a, axis, wrong), impl.Tensor{})
					checkTensor(t, "Scatter of a wrong index", impl.Scatter(a, axis, wrong, length), impl.Tensor{})
				}
				for _, n := range []int{math.MinInt, -1, 0, 1, 2, length, length + 1, 4096, 4097, math.MaxInt} {
					checkTensor(t, "Scatter", impl.Scatter(a, axis, index, n), wantScatter(a, axis, index, n))
				}
			}
		}
	}
}

func TestGatherRows(t *testing.T) {
	a := tensorOf(ints(2, 3), 1, 2, 3, 4, 5, 6)
	many := make([]int, 2048)
	for i := range many {
		many[i] = 1
	}
	checkTensorCases(t, "Gather", []tensorCase{
		{impl.Gather(a, 1, ints(2, 0)), tensorOf(ints(2, 2), 3, 1, 6, 4)}, {impl.Gather(a, 0, ints(1)), tensorOf(ints(1, 3), 4, 5, 6)},
		{impl.Gather(a, 0, ints(1, 1, 0, 1)), tensorOf(ints(4, 3), 4, 5, 6, 4, 5, 6, 1, 2, 3, 4, 5, 6)}, {impl.Gather(a, 1, ints(0, 1, 2)), a},
		{impl.Gather(tensorOf(ints(1), 9), 0, ints(0, 0, 0)), tensorOf(ints(3), 9, 9, 9)},
		{impl.Gather(a, 1, many), impl.Gather(a, 1, append(ints(1), many[1:]...))}, {impl.Gather(tensorOf(ints(2), 7, 8), 0, append(many, many...)), impl.Fill(ints(4096), 8)},
	})
	checkNone(t, "Gather", tensors(
		impl.Gather(a, 0, nil), impl.Gather(a, 1, ints()), impl.Gather(a, 0, ints(2)), impl.Gather(a, 1, ints(3)), impl.Gather(a, 1, ints(0, -1)),
		impl.Gather(a, 2, ints(0)), impl.Gather(a, -1, ints(0)), impl.Gather(a, math.MinInt, ints(0)), impl.Gather(a, math.MaxInt, ints(0)),
		impl.Gather(a, 1, append(many, 0)), impl.Gather(tensorOf(ints(2), 7, 8), 0, slices.Concat(many, many, ints(0))), impl.Gather(tensorOf(nil, 1), 0, ints(0)),
		impl.Gather(tensorOf(nil, 1), 0, nil), impl.Gather(tensorOf(nil, 1), -1, nil), impl.Gather(a, 1, ints(math.MaxInt)), impl.Gather(a, 1, ints(0, math.MinInt)),
	))
}

func TestScatterRows(t *testing.T) {
	a := tensorOf(ints(2, 3), 1, 2, 3, 4, 5, impl.Prime-1)
	checkTensorCases(t, "Scatter", []tensorCase{
		{impl.Scatter(a, 1, ints(1, 1, 1), 2), tensorOf(ints(2, 2), 0, 6, 0, 8)}, {impl.Scatter(a, 1, ints(2, 0, 3), 4), tensorOf(ints(2, 4), 2, 0, 1, 3, 5, 0, 4, impl.Prime-1)},
		{impl.Scatter(a, 0, ints(0, 0), 1), tensorOf(ints(1, 3), 5, 7, 2)}, {impl.Scatter(a, 0, ints(1, 0), 2), tensorOf(ints(2, 3), 4, 5, impl.Prime-1, 1, 2, 3)},
		{impl.Scatter(tensorOf(ints(2), impl.Prime-1, impl.Prime-1), 0, ints(1, 1), 2), tensorOf(ints(2), 0, impl.Prime-2)},
		{impl.Scatter(tensorOf(ints(1), 4), 0, ints(4095), 4096), tensorOf(ints(4096), append(make([]int, 4095), 4)...)},
	})
	checkNone(t, "Scatter", tensors(
		impl.Scatter(a, 1, ints(0, 1), 3), impl.Scatter(a, 1, ints(0, 1, 2, 0), 3), impl.Scatter(a, 1, nil, 3), impl.Scatter(a, 1, ints(0, 1, 3), 3),
		impl.Scatter(a, 1, ints(0, -1, 2), 3), impl.Scatter(a, 1, ints(0, 0, 0), 0), impl.Scatter(a, 1, ints(0, 0, 0), -1), impl.Scatter(a, 1, ints(0, 0, 0), math.MinInt),
		impl.Scatter(a, 1, ints(0, 0, 0), math.MaxInt), impl.Scatter(a, 1, ints(0, 0, 0), 2049), impl.Scatter(tensorOf(ints(1), 4), 0, ints(0), 4097),
		impl.Scatter(a, 2, ints(0, 0, 0), 3), impl.Scatter(a, -1, ints(0, 0), 3), impl.Scatter(a, 2, nil, 3), impl.Scatter(a, -1, ints(), 3),
		impl.Scatter(tensorOf(nil, 1), 0, nil, 1), impl.Scatter(tensorOf(nil, 1), 0, ints(0), 1), impl.Scatter(a, 1, ints(0, 1, math.MaxInt), math.MaxInt),
		impl.Scatter(tensorOf(ints(1), 4), 0, ints(-1), 0), impl.Scatter(tensorOf(ints(1), 4), 0, ints(-2), -1),
	))
	if got := impl.Scatter(a, 1, ints(0, 0, 0), 2048); len(got.Data) != 4096 || got.Data[0] != 6 || got.Data[2048] != 8 {
		t.Error("Scatter to just MaxSize")
	}
}

func wantConcat(ts []impl.Tensor, axis int) impl.Tensor {
	if len(ts) < 1 || len(ts) > 6 {
		return impl.Tensor{}
	}
	var owner, own []int
	for which, a := range ts {
		if !hasAxis(a, axis) || len(a.Dims) != len(ts[0].Dims) || !slices.Equal(replaced(a.Dims, axis, 0), replaced(ts[0].Dims, axis, 0)) {
			return impl.Tensor{}
		}
		for i := range a.Dims[axis] {
			owner, own = append(owner, which), append(own, i)
		}
	}
	return built(replaced(ts[0].Dims, axis, len(owner)), func(index []int) int {
		i := index[axis]
		return numberAt(ts[owner[i]], replaced(index, axis, own[i]))
	})
}

func TestConcatAgainstWords(t *testing.T) {
	source := rand.New(rand.NewSource(55))
	right := 0
	for _, a := range goodTensors() {
		for _, axis := range axesFor(a) {
			for count := range 8 {
				ts := []impl.Tensor{}
				for range count {
					dims := slices.Clone(a.Dims)
					if hasAxis(a, axis) {
						dims[axis] = 1 + source.Intn(3)
					}
					if len(dims) > 0 && source.Intn(20) == 0 {
						dims[source.Intn(len(dims))]++
					}
					if source.Intn(30) == 0 {
						dims = dims[len(dims)/2:]
					}
					if wantDims(dims) {
						ts = append(ts, randomTensor(source, dims))
					}
				}
				want := wantConcat(ts, axis)
				checkTensor(t, "Concat", impl.Concat(ts, axis), want)
				if !isNoTensor(want) {
					right++
				}
			}
		}
	}
	if right < 300 {
		t.Errorf("only %d were right", right)
	}
}

func TestConcatRows(t *testing.T) {
	a, b := tensorOf(ints(2, 2), 1, 2, 3, 4), tensorOf(ints(2, 1), 5, 6)
	row, line := tensorOf(ints(1, 2), 7, 8), tensorOf(ints(2), 1, 2)
	big, lone := impl.Fill(ints(2048), 1), tensorOf(ints(1), 3)
	checkTensorCases(t, "Concat", []tensorCase{
		{impl.Concat(tensors(a, b), 1), tensorOf(ints(2, 3), 1, 2, 5, 3, 4, 6)}, {impl.Concat(tensors(b, a), 1), tensorOf(ints(2, 3), 5, 1, 2, 6, 3, 4)},
		{impl.Concat(tensors(a, row), 0), tensorOf(ints(3, 2), 1, 2, 3, 4, 7, 8)}, {impl.Concat(tensors(a), 0), a}, {impl.Concat(tensors(a), 1), a},
		{impl.Concat(tensors(lone, lone, line, lone, lone, lone), 0), tensorOf(ints(7), 3, 3, 1, 2, 3, 3, 3)}, {impl.Concat(tensors(big, big), 0), impl.Fill(ints(4096), 1)},
		{impl.Concat(tensors(impl.Fill(ints(64, 32), 2), impl.Fill(ints(64, 32), 2)), 1), impl.Fill(ints(64, 64), 2)},
	})
	checkNone(t, "Concat", tensors(
		impl.Concat(nil, 0), impl.Concat(tensors(), 0), impl.Concat(tensors(line, line, line, line, line, line, line), 0), impl.Concat(tensors(a, b), 0),
		impl.Concat(tensors(a, row), 1), impl.Concat(tensors(a, line), 0), impl.Concat(tensors(line, a), 0), impl.Concat(tensors(a, a), 2), impl.Concat(tensors(a, a), -1),
		impl.Concat(tensors(a), math.MaxInt), impl.Concat(tensors(a), math.MinInt), impl.Concat(tensors(tensorOf(nil, 1)), 0), impl.Concat(tensors(tensorOf(nil, 1), tensorOf(nil, 2)), 0),
		impl.Concat(tensors(big, big, lone), 0), impl.Concat(tensors(impl.Fill(ints(64, 32), 2), impl.Fill(ints(64, 33), 2)), 1), impl.Concat(tensors(line, impl.Tensor{}), 0),
		impl.Concat(tensors(impl.Tensor{}), 0), impl.Concat(tensors(a, tensorOf(ints(2, 2, 1), 1, 2, 3, 4)), 0), impl.Concat(tensors(line, tensorOf(nil, 1)), 0),
	))
}

func wantPad(t impl.Tensor, axis int, before int, after int, gap int) impl.Tensor {
	for _, count := range []int{before, after, gap} {
		if count < 0 || count > 4096 {
			return impl.Tensor{}
		}
	}
	if !hasAxis(t, axis) {
		return impl.Tensor{}
	}
	length := before + t.Dims[axis] + (t.Dims[axis]-1)*gap + after
	return addedUp(t, replaced(t.Dims, axis, length), func(index []int) []int { return replaced(index, axis, before+index[axis]*(1+gap)) })
}

func TestPadAgainstWords(t *testing.T) {
	source := rand.New(rand.NewSource(56))
	edges := append(viewInts(), 0, 1, 2, 0, 1, 2, 0, 1, 2)
	edge := func() int { return edges[source.Intn(len(edges))] }
	small := func() int { return source.Intn(4) }
	for _, a := range goodTensors() {
		for _, axis := range axesFor(a) {
			for range 10 {
				for _, c := range [][3]int{{small(), small(), small()}, {edge(), small(), small()}, {small(), edge(), small()}, {small(), small(), edge()}, {edge(), edge(), edge()}} {
					checkTensor(t, "Pad", impl.Pad(a, axis, c[0], c[1], c[2]), wantPad(a, axis, c[0], c[1], c[2]))
				}
			}
		}
	}
}

func TestPadRows(t *testing.T) {
	a, lone := tensorOf(ints(2, 2), 1, 2, 3, 4), tensorOf(ints(1), 9)
	long := impl.Fill(ints(4096), 1)
	checkTensorCases(t, "Pad", []tensorCase{
		{impl.Pad(a, 1, 0, 0, 0), a}, {impl.Pad(a, 1, 1, 0, 0), tensorOf(ints(2, 3), 0, 1, 2, 0, 3, 4)}, {impl.Pad(a, 1, 0, 1, 0), tensorOf(ints(2, 3), 1, 2, 0, 3, 4, 0)},
		{impl.Pad(a, 1, 0, 0, 1), tensorOf(ints(2, 3), 1, 0, 2, 3, 0, 4)}, {impl.Pad(a, 0, 1, 2, 1), tensorOf(ints(6, 2), 0, 0, 1, 2, 0, 0, 3, 4, 0, 0, 0, 0)},
		{impl.Pad(lone, 0, 0, 0, 4096), lone}, {impl.Pad(lone, 0, 1, 1, 4096), tensorOf(ints(3), 0, 9, 0)}, {impl.Pad(long, 0, 0, 0, 0), long},
		{impl.Pad(lone, 0, 4095, 0, 0), tensorOf(ints(4096), append(make([]int, 4095), 9)...)}, {impl.Pad(lone, 0, 0, 4095, 7), tensorOf(ints(4096), append(ints(9), make([]int, 4095)...)...)},
		{impl.Pad(tensorOf(ints(2), 1, 2), 0, 0, 0, 4094), tensorOf(ints(4096), slices.Concat(ints(1), make([]int, 4094), ints(2))...)},
		{impl.Pad(impl.Fill(ints(1, 1, 4096), 1), 1, 0, 0, 4096), impl.Fill(ints(1, 1, 4096), 1)},
	})
	checkNone(t, "Pad", tensors(
		impl.Pad(lone, 0, 4096, 0, 0), impl.Pad(lone, 0, 0, 4096, 0), impl.Pad(lone, 0, 4097, 0, 0), impl.Pad(lone, 0, 0, 4097, 0), impl.Pad(lone, 0, 0, 0, 4097),
		impl.Pad(lone, 0, 4096, 4096, 4096), impl.Pad(lone, 0, -1, 0, 0), impl.Pad(lone, 0, 0, -1, 0), impl.Pad(lone, 0, 0, 0, -1), impl.Pad(lone, 0, 2, -1, 0),
		impl.Pad(a, 0, -1, 1, 0), impl.Pad(a, 0, 1, 1, -1), impl.Pad(a, 2, 0, 0, 0), impl.Pad(a, -1, 0, 0, 0), impl.Pad(tensorOf(nil, 1), 0, 0, 0, 0),
		impl.Pad(a, 0, 2047, 0, 0), impl.Pad(a, 1, 0, 2047, 0), impl.Pad(a, 1, 0, 0, 2047), impl.Pad(a, 0, 0, 0, 4096), impl.Pad(long, 0, 0, 1, 0), impl.Pad(long, 0, 0, 0, 1),
		impl.Pad(long, 0, 4096, 4096, 4096), impl.Pad(a, 0, math.MaxInt, 0, 0), impl.Pad(a, 0, 0, math.MaxInt, 0), impl.Pad(a, 0, 0, 0, math.MaxInt), impl.Pad(a, 0, math.MinInt, 0, 0),
		impl.Pad(a, 0, 0, math.MinInt, 0), impl.Pad(a, 0, 0, 0, math.MinInt), impl.Pad(lone, 0, 0, 0, math.MaxInt), impl.Pad(lone, 0, 0, 0, math.MinInt),
		impl.Pad(tensorOf(ints(2), 1, 2), 0, 0, 0, 4095), impl.Pad(a, 0, math.MaxInt, math.MaxInt, 0), impl.Pad(lone, 0, 1<<62, 1<<62, 1<<62),
	))
	if got := impl.Pad(a, 0, 2046, 0, 0); len(got.Data) != 4096 || got.Data[4095] != 4 {
		t.Error("Pad to just MaxSize")
	}
}

func wantFold(t impl.Tensor, axis int, step int, n int) impl.Tensor {
	last := len(t.Dims) - 1
	if !hasAxis(t, axis) || axis == last || step < 1 || n < 1 || t.Dims[last] > n || t.Dims[axis] != (n-t.Dims[last])/step+1 {
		return impl.Tensor{}
	}
	return addedUp(t, replaced(t.Dims[:last], axis, n), func(index []int) []int { return replaced(index[:last], axis, index[axis]*step+index[last]) })
}

func TestFoldAgainstWords(t *testing.T) {
	source := rand.New(rand.NewSource(57))
	right := 0
	for _, a := range append(goodTensors(), someTensors(150, 58)...) {
		if len(a.Data) > 500 {
			continue
		}
		for _, axis := range axesFor(a) {
			steps, counts := append(viewInts(), 1, 2, 3, 4), viewInts()
			for range 6 {
				step := steps[source.Intn(len(steps))]
				for _, n := range append(counts, 8, 9, 10, 11, 12) {
					want := wantFold(a, axis, step, n)
					checkTensor(t, "Fold of "+brief(a), impl.Fold(a, axis, step, n), want)
					if !isNoTensor(want) {
						right++
					}
				}
			}
		}
	}
	if right < 1000 {
		t.Errorf("only %d folded", right)
	}
}

func TestFoldRows(t *testing.T) {
	a := tensorOf(ints(3, 2), 1, 2, 3, 4, 5, 6)
	flat := tensorOf(ints(1, 2), 7, 8)
	deep := tensorOf(ints(2, 2, 2), 1, 2, 3, 4, 5, 6, 7, impl.Prime-1)
	checkTensorCases(t, "Fold", []tensorCase{
		{impl.Fold(a, 0, 1, 4), tensorOf(ints(4), 1, 5, 9, 6)}, {impl.Fold(a, 0, 2, 6), tensorOf(ints(6), 1, 2, 3, 4, 5, 6)},
		{impl.Fold(a, 0, 2, 7), tensorOf(ints(7), 1, 2, 3, 4, 5, 6, 0)}, {impl.Fold(a, 0, 3, 8), tensorOf(ints(8), 1, 2, 0, 3, 4, 0, 5, 6)},
		{impl.Fold(a, 0, 3, 10), tensorOf(ints(10), 1, 2, 0, 3, 4, 0, 5, 6, 0, 0)},
		{impl.Fold(flat, 0, 1, 2), tensorOf(ints(2), 7, 8)}, {impl.Fold(flat, 0, math.MaxInt, 2), tensorOf(ints(2), 7, 8)}, {impl.Fold(flat, 0, math.MaxInt, 4), tensorOf(ints(4), 7, 8, 0, 0)},
		{impl.Fold(flat, 0, 4095, 4096), tensorOf(ints(4096), append(ints(7, 8), make([]int, 4094)...)...)},
		{impl.Fold(deep, 1, 1, 3), tensorOf(ints(2, 3), 1, 5, 4, 5, 13, impl.Prime-1)}, {impl.Fold(deep, 0, 1, 3), tensorOf(ints(3, 2), 1, 3, 7, 11, 6, impl.Prime-1)},
		{impl.Fold(deep, 0, 2, 5), tensorOf(ints(5, 2), 1, 3, 2, 4, 5, 7, 6, impl.Prime-1, 0, 0)},
		{impl.Fold(tensorOf(ints(2, 1), 3, 4), 0, 2, 3), tensorOf(ints(3), 3, 0, 4)}, {impl.Fold(tensorOf(ints(1, 1), 3), 0, 1, 1), tensorOf(ints(1), 3)},
	})
	checkNone(t, "Fold", tensors(
		impl.Fold(a, 1, 1, 4), impl.Fold(deep, 2, 1, 3), impl.Fold(a, 2, 1, 4), impl.Fold(a, -1, 1, 4), impl.Fold(tensorOf(ints(3), 1, 2, 3), 0, 1, 3), impl.Fold(tensorOf(nil, 1), 0, 1, 1),
		impl.Fold(a, 0, 0, 4), impl.Fold(a, 0, -1, 4), impl.Fold(a, 0, 1, 0), impl.Fold(a, 0, 1, -1), impl.Fold(a, 0, 1, 1), impl.Fold(a, 0, 1, 3), impl.Fold(a, 0, 1, 5),
		impl.Fold(a, 0, 2, 5), impl.Fold(a, 0, 2, 8), impl.Fold(flat, 0, 1, 1), impl.Fold(flat, 0, 1, 3), impl.Fold(flat, 0, math.MaxInt, 1), impl.Fold(flat, 0, math.MinInt, 2),
		impl.Fold(flat, 0, 4096, 4097), impl.Fold(flat, 0, math.MaxInt, math.MaxInt), impl.Fold(flat, 0, 1, math.MaxInt), impl.Fold(flat, 0, 1, math.MinInt), impl.Fold(flat, 0, math.MaxInt, math.MinInt),
		impl.Fold(impl.Fill(ints(2, 1, 2), 1), 1, 4096, 4096), impl.Fold(flat, math.MinInt, 1, 2), impl.Fold(flat, math.MaxInt, 1, 2),
	))
}

// inner is a times b: the sum of the products, number by number.
func inner(t *testing.T, a impl.Tensor, b impl.Tensor) int {
	t.Helper()
	if !slices.Equal(a.Dims, b.Dims) || !wantTensorOk(a) || !wantTensorOk(b) {
		t.Fatalf("%s times %s", brief(a), brief(b))
	}
	sum := new(big.Int)
	for i, x := range a.Data {
		sum.Add(sum, new(big.Int).Mul(wide(x), wide(b.Data[i])))
	}
	return exact(sum)
}

// P10: what Gather takes of a times b is a times what Scatter makes of b.
func TestGatherAndScatterAreEachOthersTurn(t *testing.T) {
	source := rand.New(rand.NewSource(59))
	seen := 0
	for _, a := range goodTensors() {
		for axis, length := range a.Dims {
			for _, count := range []int{1, 2, length, length + 2} {
				index := randomIndex(source, count, length)
				taken := impl.Gather(a, axis, index)
				if !wantDims(replaced(a.Dims, axis, count)) {
					checkTensor(t, "Gather of too many", taken, impl.Tensor{})
					continue
				}
				seen++
				b := randomTensor(source, taken.Dims)
				if x, y := inner(t, taken, b), inner(t, a, impl.Scatter(b, axis, index, length)); x != y {
					t.Fatalf("Gather and Scatter of %s at %d, %v: %d and %d", brief(a), axis, index, x, y)
				}
			}
		}
	}
	if seen < 300 {
		t.Errorf("only %d were tried", seen)
	}
}

// P10: what Windows take of a times b is a times what Fold makes of b.
func TestWindowsAndFoldAreEachOthersTurn(t *testing.T) {
	source := rand.New(rand.NewSource(60))
	seen := 0
	for _, a := range append(goodTensors(), randomTensor(source, ints(10)), randomTensor(source, ints(7, 9)), randomTensor(source, ints(2, 11, 2))) {
		for axis, length := range a.Dims {
			for _, size := range []int{1, 2, 3, length / 2, length} {
				for _, step := range []int{1, 2, 3, length, 4096, math.MaxInt} {
					v := impl.Windows(impl.Whole(a.Dims), axis, size, step)
					if isNoView(v) {
						continue
					}
					seen++
					b := randomTensor(source, v.Dims)
					if x, y := inner(t, impl.Look(a, v), b), inner(t, a, impl.Fold(b, axis, step, length)); x != y {
						t.Fatalf("Windows and Fold of %s at %d, %d, %d: %d and %d", brief(a), axis, size, step, x, y)
					}
				}
			}
		}
	}
	if seen < 1000 {
		t.Errorf("only %d were tried", seen)
	}
}

// P10: what Slice takes of a times b is a times what Pad makes of b.
func TestSliceAndPadAreEachOthersTurn(t *testing.T) {
	source := rand.New(rand.NewSource(61))
	seen := 0
	for _, a := range append(goodTensors(), randomTensor(source, ints(10)), randomTensor(source, ints(7, 9)), randomTensor(source, ints(2, 11, 2))) {
		for axis, length := range a.Dims {
			for range 20 {
				from, count, step := source.Intn(length), 1+source.Intn(min(length, 6)), 1+source.Intn(4)
				if source.Intn(8) == 0 {
					count, step = 1, 4096
				}
				v := impl.Slice(impl.Whole(a.Dims), axis, from, count, step)
				if isNoView(v) {
					continue
				}
				seen++
				b := randomTensor(source, v.Dims)
				behind := length - 1 - (from + (count-1)*step)
				if x, y := inner(t, impl.Look(a, v), b), inner(t, a, impl.Pad(b, axis, from, behind, step-1)); x != y {
					t.Fatalf("Slice and Pad of %s at %d, %d, %d, %d: %d and %d", brief(a), axis, from, count, step, x, y)
				}
			}
		}
	}
	if seen < 1000 {
		t.Errorf("only %d were tried", seen)
	}
}

// lineOf gives the numbers along the axis through an index.
func lineOf(t impl.Tensor, axis int, index []int) []int {
	var out []int
	for i := range t.Dims[axis] {
		out = append(out, numberAt(t, replaced(index, axis, i)))
	}
	return out
}

// firstOfLines gives the indexes of all lines' first numbers.
func firstOfLines(t impl.Tensor, axis int) [][]int { return indexesOf(replaced(t.Dims, axis, 1)) }

// tensorsWithTies has many numbers that are equal.
func tensorsWithTies() []impl.Tensor {
	source := rand.New(rand.NewSource(62))
	values := ints(0, 1, impl.Prime-1, turnsAt, turnsAt+1)
	out := goodTensors()
	for range 30 {
		dims := randomDims(source, 1+source.Intn(4), 5)
		out = append(out, built(dims, func([]int) int { return values[source.Intn(len(values))] }))
	}
	return append(out, impl.Fill(ints(3, 4), impl.Prime-1), impl.Fill(ints(100), 0), tensorOf(ints(1, 1), 3))
}

func TestLinesAtWrongAxes(t *testing.T) {
	for _, a := range goodTensors() {
		for _, axis := range append(viewInts(), len(a.Dims)) {
			if hasAxis(a, axis) {
				continue
			}
			numbers, places := impl.Sorted(a, axis)
			checkNone(t, "axis "+strconv.Itoa(axis), tensors(impl.Scan(a, axis), impl.Top(a, axis), numbers, places))
		}
	}
}

// P12: Scan ends with the sum.
func TestScanEndsWithTheSum(t *testing.T) {
	for _, a := range tensorsWithTies() {
		for axis, length := range a.Dims {
			got := impl.Scan(a, axis)
			if !wantTensorOk(got) || !slices.Equal(got.Dims, a.Dims) {
				t.Fatalf("Scan of %s = %s", brief(a), brief(got))
			}
			for _, first := range firstOfLines(a, axis) {
				sum := new(big.Int)
				scanned := lineOf(got, axis, first)
				for i, x := range lineOf(a, axis, first) {
					if scanned[i] != exact(sum.Add(sum, wide(x))) {
						t.Fatalf("Scan of %s along %d has %d at %d", brief(a), axis, scanned[i], i)
					}
				}
				if scanned[length-1] != exact(sum) {
					t.Fatalf("Scan of %s along %d ends with %d", brief(a), axis, scanned[length-1])
				}
			}
		}
	}
}

// P12: Top has one 1 in each line, where nothing is greater; the first such.
func TestTopHasOneInEachLine(t *testing.T) {
	for _, a := range tensorsWithTies() {
		for axis := range a.Dims {
			got := impl.Top(a, axis)
			if !wantTensorOk(got) || !slices.Equal(got.Dims, a.Dims) {
				t.Fatalf("Top of %s = %s", brief(a), brief(got))
			}
			for _, first := range firstOfLines(a, axis) {
				line := lineOf(a, axis, first)
				want, top := make([]int, len(line)), 0
				for i := range line {
					if signedOf(line[i]) > signedOf(line[top]) {
						top = i
					}
				}
				want[top] = 1
				if marks := lineOf(got, axis, first); !slices.Equal(marks, want) {
					t.Fatalf("Top along %d of the line %v is %v", axis, line, marks)
				}
			}
		}
	}
}

// P12: Sorted is in order, with the places it came from; equal ones stay as
// they stood.
func TestSortedIsInOrder(t *testing.T) {
	for _, a := range tensorsWithTies() {
		for axis, length := range a.Dims {
			numbers, places := impl.Sorted(a, axis)
			if !wantTensorOk(numbers) || !wantTensorOk(places) || !slices.Equal(numbers.Dims, a.Dims) || !slices.Equal(places.Dims, a.Dims) {
				t.Fatalf("Sorted of %s = %s, %s", brief(a), brief(numbers), brief(places))
			}
			for _, first := range firstOfLines(a, axis) {
				line, sorted, from := lineOf(a, axis, first), lineOf(numbers, axis, first), lineOf(places, axis, first)
				came := make([]bool, length)
				for k, i := range from {
					if i >= length || came[i] || sorted[k] != line[i] {
						t.Fatalf("Sorted of the line %v = %v from %v", line, sorted, from)
					}
					came[i] = true
					if k > 0 && (signedOf(sorted[k-1]) > signedOf(sorted[k]) || sorted[k-1] == sorted[k] && from[k-1] > i) {
						t.Fatalf("Sorted of the line %v = %v from %v", line, sorted, from)
					}
				}
			}
		}
	}
}

func TestScanTopSortedRows(t *testing.T) {
	const last = impl.Prime - 1
	a := tensorOf(ints(2, 3), 3, 1, 3, last, turnsAt, turnsAt+1)
	sorted := func(t impl.Tensor, axis int) impl.Tensor { numbers, _ := impl.Sorted(t, axis); return numbers }
	places := func(t impl.Tensor, axis int) impl.Tensor { _, places := impl.Sorted(t, axis); return places }
	lone := tensorOf(ints(1), last)
	checkTensorCases(t, "Scan, Top, Sorted", []tensorCase{
		{impl.Scan(a, 1), tensorOf(ints(2, 3), 3, 4, 7, last, turnsAt-1, last)}, {impl.Scan(a, 0), tensorOf(ints(2, 3), 3, 1, 3, 2, turnsAt+1, turnsAt+4)},
		{impl.Top(a, 1), tensorOf(ints(2, 3), 1, 0, 0, 0, 1, 0)}, {impl.Top(a, 0), tensorOf(ints(2, 3), 1, 0, 1, 0, 1, 0)},
		{sorted(a, 1), tensorOf(ints(2, 3), 1, 3, 3, turnsAt+1, last, turnsAt)}, {places(a, 1), tensorOf(ints(2, 3), 1, 0, 2, 2, 0, 1)},
		{sorted(a, 0), tensorOf(ints(2, 3), last, 1, turnsAt+1, 3, turnsAt, 3)}, {places(a, 0), tensorOf(ints(2, 3), 1, 0, 1, 0, 1, 0)},
		{impl.Scan(lone, 0), lone}, {impl.Top(lone, 0), tensorOf(ints(1), 1)}, {sorted(lone, 0), lone}, {places(lone, 0), tensorOf(ints(1), 0)},
		{impl.Top(impl.Fill(ints(3), 0), 0), tensorOf(ints(3), 1, 0, 0)}, {places(impl.Fill(ints(4), 7), 0), tensorOf(ints(4), 0, 1, 2, 3)},
		{impl.Top(tensorOf(ints(3), last-1, last, last), 0), tensorOf(ints(3), 0, 1, 0)},
		{impl.Scan(impl.Tensor{}, 0), impl.Tensor{}}, {impl.Top(tensorOf(nil, 1), 0), impl.Tensor{}}, {sorted(tensorOf(nil, 1), 0), impl.Tensor{}}, {places(tensorOf(nil, 1), 0), impl.Tensor{}},
		{sorted(a, 2), impl.Tensor{}}, {places(a, -1), impl.Tensor{}},
	})
}

// wantShown puts the text together by the document's words.
func wantShown(t impl.Tensor) string {
	dims := []string{}
	for _, length := range t.Dims {
		dims = append(dims, strconv.Itoa(length))
	}
	s := "[" + strings.Join(dims, " ") + "]"
	for _, x := range t.Data {
		s += " " + impl.ShowNum(x)
	}
	return s
}

// P13: ReadTensor of ShowTensor is the tensor.
func TestReadTensorOfShowTensor(t *testing.T) {
	for _, a := range append(tensorsWithTies(), someTensors(100, 63)...) {
		s := impl.ShowTensor(a)
		if s != wantShown(a) {
			t.Fatalf("ShowTensor(%s) = %q", brief(a), s)
		}
		got, ok := impl.ReadTensor(s)
		if !ok || !sameTensor(got, a) {
			t.Fatalf("ReadTensor(%q) = %s, %v", s[:min(len(s), 200)], brief(got), ok)
		}
	}
}

func TestShowTensorRows(t *testing.T) {
	rows := []struct {
		t    impl.Tensor
		want string
	}{
		{tensorOf(ints(2, 2), 1, 2, 3, 4), "[2 2] 1 2 3 4"}, {tensorOf(nil, 5), "[] 5"}, {tensorOf(ints(1), 0), "[1] 0"}, {tensorOf(ints(1), impl.Prime-1), "[1] -1"},
		{tensorOf(ints(2), impl.Over(1, 2), impl.Over(-3, 7)), "[2] 1/2 -3/7"}, {tensorOf(ints(2, 1), 1000000000, 32767), "[2 1] #1000000000 32767"},
		{tensorOf(ints(1, 1, 1, 1, 1, 1), 32768), "[1 1 1 1 1 1] #32768"}, {impl.Tensor{}, ""}, {tensorOf(ints(2), 1), ""}, {tensorOf(ints(1), impl.Prime), ""},
		{tensorOf(ints(1), -1), ""}, {tensorOf(ints(0)), ""},
	}
	for _, row := range rows {
		if got := impl.ShowTensor(row.t); got != row.want {
			t.Errorf("ShowTensor(%s) = %q, not %q", brief(row.t), got, row.want)
		}
		if got, ok := impl.ReadTensor(row.want); ok != (row.want != "") || ok && !sameTensor(got, row.t) || !ok && !isNoTensor(got) {
			t.Errorf("ReadTensor(%q) = %s, %v", row.want, brief(got), ok)
		}
	}
}

func TestReadTensorOfWhatIsNeverShown(t *testing.T) {
	texts := []string{
		"", " ", "[", "]", "[]", "[] ", "][", "[]5", "[]  5", "[] 5 ", " [] 5", "[ ] 5", "[] 5 6", "5", "[[] 5", "[]] 5", "[] ] 5", "[] [] 5", "[1]", "[1] ", "[1]  1", "[1]1",
		"[2 2]  1 2 3 4", "[2 2] 1 2 3 4 ", "[2 2] 1  2 3 4", " [2 2] 1 2 3 4", "[2 2]1 2 3 4", "[2  2] 1 2 3 4", "[ 2 2] 1 2 3 4", "[2 2 ] 1 2 3 4", "[22] 1 2 3 4",
		"2 2] 1 2 3 4", "[2 2 1 2 3 4", "(2 2) 1 2 3 4", "[2,2] 1 2 3 4", "[2 2] 1,2,3,4", "[2 2] 1 2 3 4\n", "[2 2]\n1 2 3 4", "[2 2]\t1 2 3 4", "[2\t2] 1 2 3 4", "[2 2] 1\u00a02 3 4",
		"[02 2] 1 2 3 4", "[+2 2] 1 2 3 4", "[2 02] 1 2 3 4", "[-2 -2] 1 2 3 4", "[2 2] 1 2 3", "[2 2] 1 2 3 4 5", "[2 2]", "[2 2] ", "[2 2] 1234",
		"[2 2] 01 2 3 4", "[2 2] +1 2 3 4", "[2 2] -0 2 3 4", "[2 2] 1 2 3 04", "[2 2] 1 2 3 +4", "[2 2] 1 2 3 4.", "[2 2] 1 2 3 #4", "[2 2] 1 2 3 4/1", "[2 2] 1 2 3 2/4",
		"[2 2] 1 2 3 1/-2", "[2 2] 1 2 3 0/1", "[2 2] 1 2 3 40000", "[2 2] 1 2 3 2147483646", "[2 2] 1 2 3 2147483647", "[2 2] 1 2 3 #2147483647", "[2 2] 1 2 3 #2147483648",
		"[2 2] 1 2 3 #-1", "[2 2] 1 2 3 99999999999999999999", "[2 2] 1 2 3 x", "[2 2] 1 2 3 -", "[2 2] 1 2 3 #", "[2 2] 1 2 3 /",
		"[0]", "[0] ", "[0] 1", "[-1] 1", "[-1 -1] 1", "[1 1 1 1 1 1 1] 5", "[4097] 1", "[9223372036854775807] 1", "[9223372036854775808] 1", "[18446744073709551617] 1",
		"[4294967296 4294967296]", "[x] 1", "[1x] 1", "[1.0] 1", "[1]\x00 1", "[1] 1\x00", "[1] \xff", "[] -", "[]-5", "[] 5]", "[] 5[",
	}
	for _, s := range texts {
		if got, ok := impl.ReadTensor(s); ok || !isNoTensor(got) {
			t.Errorf("ReadTensor(%q) = %s, %v", s, brief(got), ok)
		}
	}
}

func TestReadTensorLimits(t *testing.T) {
	full := "[4096]" + strings.Repeat(" 1", 4096)
	if got, ok := impl.ReadTensor(full); !ok || !sameTensor(got, impl.Fill(ints(4096), 1)) {
		t.Error("ReadTensor of MaxSize numbers")
	}
	for _, s := range []string{
		full + " 1", full[:len(full)-2], "[4097]" + strings.Repeat(" 1", 4097), "[64 65]" + strings.Repeat(" 1", 4160), "[]" + strings.Repeat(" 1", 100000),
		"[" + strings.Repeat("1 ", 100000) + "1] 1", strings.Repeat("[", 100000), strings.Repeat("]", 100000), "[1] " + strings.Repeat("9", 100000), "[" + strings.Repeat("9", 100000) + "] 1",
	} {
		if got, ok := impl.ReadTensor(s); ok || !isNoTensor(got) {
			t.Errorf("ReadTensor of %d bytes, %q .., = %s", len(s), s[:20], brief(got))
		}
	}
}

// Texts that were changed at one byte are read only if they are shown for what
// was read.
func TestReadTensorOfChangedTexts(t *testing.T) {
	source := rand.New(rand.NewSource(64))
	const bytes = " 0123456789-/#[]+,x\n"
	read, not := 0, 0
	for _, a := range someTensors(200, 65) {
		s := impl.ShowTensor(a)
		for range 100 {
			at, b := source.Intn(len(s)), source.Intn(len(bytes))
			changed := s[:at] + bytes[b:b+1] + s[at+source.Intn(2):]
			if source.Intn(3) == 0 {
				changed = s[:at] + s[at+1:]
			}
			got, ok := impl.ReadTensor(changed)
			switch {
			case ok && (wantShown(got) != changed || !wantTensorOk(got)), !ok && !isNoTensor(got), !ok && changed == s:
				t.Fatalf("ReadTensor(%q) = %s, %v", changed, brief(got), ok)
			case ok:
				read++
			default:
				not++
			}
		}
	}
	if read < 1000 || not < 1000 {
		t.Errorf("%d were read, %d not", read, not)
	}
}

func TestTensorListsAreLeftAlone(t *testing.T) {
	lists := func(ts ...impl.Tensor) [][]int {
		out := [][]int{}
		for _, a := range ts {
			out = append(out, a.Dims, a.Data)
		}
		return out
	}
	index := ints(0, 1, 1)
	calls := map[string]func(a impl.Tensor, b impl.Tensor, list []int) [][]int{
		"Fill": func(a, b impl.Tensor, _ []int) [][]int { return lists(impl.Fill(a.Dims, 3)) },
		"Look": func(a, b impl.Tensor, _ []int) [][]int { return lists(impl.Look(a, impl.Whole(a.Dims))) },
		"One": func(a, b impl.Tensor, _ []int) [][]int {
			return lists(impl.One(impl.OneNeg, a), impl.One(impl.OneRelu, a))
		},
		"Two": func(a, b impl.Tensor, _ []int) [][]int {
			return lists(impl.Two(impl.TwoMax, a, b), impl.Two(impl.TwoMin, a, a))
		},
		"Two of a lone": func(a, b impl.Tensor, _ []int) [][]int { return lists(impl.Two(impl.TwoAdd, a, tensorOf(nil, 0))) },
		"Contract": func(a, b impl.Tensor, _ []int) [][]int {
			return lists(impl.Contract("ab->ab", tensors(a)), impl.Contract("ab,ab->ba", tensors(a, b)))
		},
		"Gather": func(a, b impl.Tensor, list []int) [][]int {
			return lists(impl.Gather(a, 1, list), impl.Gather(a, 0, list[:2]))
		},
		"Scatter": func(a, b impl.Tensor, list []int) [][]int {
			return lists(impl.Scatter(a, 1, list, 3), impl.Scatter(a, 0, list[:2], 2))
		},
		"Concat": func(a, b impl.Tensor, _ []int) [][]int {
			return lists(impl.Concat(tensors(a, b), 1), impl.Concat(tensors(a, b, a), 0))
		},
		"Concat of one": func(a, b impl.Tensor, _ []int) [][]int {
			return lists(impl.Concat(tensors(a), 0), impl.Concat(tensors(a), 1))
		},
		"Pad": func(a, b impl.Tensor, _ []int) [][]int {
			return lists(impl.Pad(a, 0, 0, 0, 0), impl.Pad(a, 1, 1, 2, 1))
		},
		"Fold":           func(a, b impl.Tensor, _ []int) [][]int { return lists(impl.Fold(a, 0, 1, 4), impl.Fold(a, 0, 3, 6)) },
		"Scan":           func(a, b impl.Tensor, _ []int) [][]int { return lists(impl.Scan(a, 0), impl.Scan(a, 1)) },
		"Top":            func(a, b impl.Tensor, _ []int) [][]int { return lists(impl.Top(a, 0), impl.Top(a, 1)) },
		"the asking one": func(a, b impl.Tensor, _ []int) [][]int { impl.TensorOk(a); impl.ShowTensor(a); return nil },
		"Sorted": func(a, b impl.Tensor, _ []int) [][]int {
			numbers, places := impl.Sorted(a, 1)
			return lists(numbers, places)
		},
	}
	for name, call := range calls {
		for _, list := range [][]int{ints(1, 2, 3, 4, 5, 6), ints(6, 5, 4, 3, 2, 1), ints(0, 0, 0, 0, 0, 0)} {
			checkAlone(t, name, [][]int{ints(2, 3), list, ints(2, 3), ints(3, 3, 3, 1, 1, 1), index}, func(given [][]int) [][]int {
				out := call(tensorOf(given[0], given[1]...), tensorOf(given[2], given[3]...), given[4])
				for i, made := range out {
					if len(made) == 0 {
						t.Fatalf("%s: list %d of the answer is empty", name, i)
					}
				}
				return out
			})
		}
	}
}

func TestViewAndTensorListsAreLeftAlone(t *testing.T) {
	a := tensorOf(ints(6), 1, 2, 3, 4, 5, 6)
	checkAlone(t, "Look", [][]int{ints(2, 3), ints(3, 1)}, func(given [][]int) [][]int {
		got := impl.Look(a, viewOf(given[0], given[1], 0, 6))
		return [][]int{got.Dims, got.Data}
	})
	ts := tensors(a, a, tensorOf(ints(6), 9, 9, 9, 9, 9, 9))
	impl.Contract("a,a->a", ts[:2])
	impl.Concat(ts[:2], 0)
	if !sameTensor(ts[0], a) || !sameTensor(ts[1], a) || ts[2].Data[0] != 9 {
		t.Error("the list of tensors has changed")
	}
	groups, _, _ := impl.Parts("ab,cd->")
	groups = append(groups[:0], "zz", "zz")
	if again, _, _ := impl.Parts("ab,cd->"); again[0] != "ab" || groups[0] != "zz" {
		t.Error("Parts keeps its groups")
	}
	first, _ := impl.ReadTensor("[2] 1 2")
	scribble(first.Dims)
	scribble(first.Data)
	if again, ok := impl.ReadTensor("[2] 1 2"); !ok || !sameTensor(again, tensorOf(ints(2), 1, 2)) {
		t.Error("ReadTensor keeps its tensor")
	}
}

// What lies behind a list's length is not read.
func TestRoomBehindTensorListsIsNotRead(t *testing.T) {
	data, dims, index := ints(1, 2, 3, 4, 5, 6), ints(2, 3, 1), ints(0, 1, 2)
	short := impl.Tensor{Dims: dims[:2], Data: data[:5]}
	if impl.TensorOk(short) || !isNoTensor(impl.Scan(short, 0)) || impl.ShowTensor(short) != "" {
		t.Error("a number was read behind Data")
	}
	a := impl.Tensor{Dims: dims[:2], Data: data}
	if !isNoTensor(impl.Scatter(a, 1, index[:2], 3)) || !isNoTensor(impl.Scan(a, 2)) || !isNoTensor(impl.Gather(a, 1, index[:0])) {
		t.Error("an axis or an index was read behind its list")
	}
	ts := tensors(a, a)
	if !isNoTensor(impl.Contract("ab,ab->", ts[:1])) || !isNoTensor(impl.Concat(ts[:0], 0)) {
		t.Error("a tensor was read behind the list")
	}
}

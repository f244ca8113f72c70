package tests

import (
	"math"
	"math/big"
	"math/rand"
	"reflect"
	"slices"
	"strings"
	"testing"

	"loop.example/g00033/impl"
)

func product(factors ...int) *big.Int {
	made := big.NewInt(1)
	for _, x := range factors {
		made.Mul(made, wide(x))
	}
	return made
}

// wantSlope says what the document says of a node's slope, with its value, and
// with the values and slopes of its Args. That of an OpInput is its move.
func wantSlope(n impl.Node, value impl.Tensor, args []impl.Tensor, slopes []impl.Tensor) impl.Tensor {
	switch n.Op {
	case 2, 8, 10:
		return built(value.Dims, func([]int) int { return 0 })
	case 3, 4:
		return wantTwoOf(n.Op-2, slopes[0], slopes[1])
	case 5:
		return built(value.Dims, func(index []int) int {
			first := product(numberAt(slopes[0], index), numberAt(args[1], index))
			return exact(first.Add(first, product(numberAt(args[0], index), numberAt(slopes[1], index))))
		})
	case 6:
		return built(value.Dims, func(index []int) int { return moduloPrime(-numberAt(slopes[0], index)) })
	case 7:
		return built(value.Dims, func(index []int) int {
			x := numberAt(value, index)
			return exact(product(-1, x, x, numberAt(slopes[0], index)))
		})
	case 9:
		return built(value.Dims, func(index []int) int {
			if signedOf(numberAt(args[0], index)) > 0 {
				return numberAt(slopes[0], index)
			}
			return 0
		})
	case 11:
		sum := built(value.Dims, func([]int) int { return 0 })
		for i, slope := range slopes {
			moved := slices.Clone(args)
			moved[i] = slope
			sum = wantTwoOf(1, sum, wantContract(n.Form, moved))
		}
		return sum
	}
	return wantNode(n, slopes)
}

// wantSlopes wants a graph that is GraphOk, and all its values.
func wantSlopes(g impl.Graph, values []impl.Tensor, moves []impl.Tensor) []impl.Tensor {
	slopes := []impl.Tensor{}
	for number, n := range g.Nodes {
		if n.Op == 1 {
			slopes, moves = append(slopes, moves[0]), moves[1:]
			continue
		}
		slopes = append(slopes, wantSlope(n, values[number], picked(values, n.Args), picked(slopes, n.Args)))
	}
	return slopes
}

func picked(ts []impl.Tensor, numbers []int) []impl.Tensor {
	list := []impl.Tensor{}
	for _, number := range numbers {
		list = append(list, ts[number])
	}
	return list
}

// moveOfOne has 1 at one place of one input, and 0 everywhere else.
func moveOfOne(inputs []impl.Tensor, input int, place int) []impl.Tensor {
	moves := []impl.Tensor{}
	for _, in := range inputs {
		moves = append(moves, built(in.Dims, func([]int) int { return 0 }))
	}
	moves[input].Data[place] = 1
	return moves
}

// innerOfAll adds up the products of each two.
func innerOfAll(t *testing.T, a []impl.Tensor, b []impl.Tensor) int {
	t.Helper()
	if len(a) != len(b) {
		t.Fatalf("%d tensors times %d", len(a), len(b))
	}
	sum := new(big.Int)
	for i := range a {
		sum.Add(sum, wide(inner(t, a[i], b[i])))
	}
	return exact(sum)
}

// wantPull says what the document says of Pull, move by move.
func wantPull(t *testing.T, g impl.Graph, inputs []impl.Tensor, seeds []impl.Tensor) []impl.Tensor {
	t.Helper()
	values, _ := wantAll(g, inputs)
	pulled := []impl.Tensor{}
	for input, in := range inputs {
		made := impl.Tensor{Dims: in.Dims}
		for place := range in.Data {
			slopes := wantSlopes(g, values, moveOfOne(inputs, input, place))
			made.Data = append(made.Data, innerOfAll(t, seeds, picked(slopes, g.Outs)))
		}
		pulled = append(pulled, made)
	}
	return pulled
}

func seedsFor(source *rand.Rand, g impl.Graph) []impl.Tensor {
	seeds := []impl.Tensor{}
	shapes := impl.Shapes(g)
	for _, out := range g.Outs {
		seeds = append(seeds, randomTensor(source, shapes[out]))
	}
	return seeds
}

func checkPush(t *testing.T, g impl.Graph, inputs []impl.Tensor, moves []impl.Tensor) {
	t.Helper()
	values, _ := wantAll(g, append([]impl.Tensor{}, inputs...))
	slopes := wantSlopes(g, values, moves)
	gotValues, gotSlopes := impl.Push(g, inputs, moves)
	if !sameTensors(gotValues, picked(values, g.Outs)) {
		t.Fatalf("Push(%s, %v) has the values %v", wantText(g), inputs, gotValues)
	}
	if !sameTensors(gotSlopes, picked(slopes, g.Outs)) {
		t.Fatalf("Push(%s, %v, %v) has the slopes %v, not %v", wantText(g), inputs, moves, gotSlopes, picked(slopes, g.Outs))
	}
}

func checkPull(t *testing.T, g impl.Graph, inputs []impl.Tensor, seeds []impl.Tensor) {
	t.Helper()
	want := wantPull(t, g, inputs, seeds)
	if got := impl.Pull(g, inputs, seeds); !sameTensors(got, want) {
		t.Fatalf("Pull(%s, %v, %v) = %v, not %v", wantText(g), inputs, seeds, got, want)
	}
}

// slopeNodes has nodes of each Op that lean on the four inputs of slopeGround,
// with gaps, with places that are met twice, and with places that are never
// met.
func slopeNodes() []impl.Node {
	return []impl.Node{
		inputNode(2), constNode(ints(2), 5, 6), argsNode(impl.OpAdd, 0, 1), argsNode(impl.OpAdd, 1, 1), argsNode(impl.OpSub, 0, 1), argsNode(impl.OpSub, 1, 1), argsNode(impl.OpMul, 0, 1), argsNode(impl.OpMul, 0, 0),
		argsNode(impl.OpNeg, 0), argsNode(impl.OpInv, 2), argsNode(impl.OpStep, 2), argsNode(impl.OpRelu, 2), argsNode(impl.OpRelu, 0), intsNode(impl.OpTop, 3, 0), intsNode(impl.OpTop, 3, 1),
		formNode("a->a", 0), formNode("a->", 2), formNode("ab->", 3), formNode("ab->ba", 3), formNode("aa->", 4), formNode("aa->a", 4), formNode("ab->b", 4), formNode("a,a->a", 0, 1), formNode("a,b->ba", 0, 2), formNode("a,b->", 2, 0),
		formNode("a,b->b", 0, 1), formNode("a,a->", 0, 0), formNode("a,b->ab", 0, 0), formNode("b,ab,c->", 0, 3, 2), formNode("aa,bb->ab", 4, 4), formNode("ab,bc,ca->b", 4, 4, 4), formNode("aa,a,a,ab,b,c->c", 4, 0, 1, 4, 0, 2),
		formNode("a,a,a,a,a,a->a", 0, 0, 0, 0, 0, 0), formNode(",a,->a", 5, 0, 5), formNode(",,,,,->", 5, 5, 5, 5, 5, 5), formNode("->", 5), formNode("a,b,c,d,e,f->", 0, 1, 0, 1, 0, 1), formNode("a,b,c,d,e,f->fdb", 0, 1, 0, 1, 0, 1),
		dimsNode(impl.OpSpread, 0, 2), dimsNode(impl.OpSpread, 0, 3, 2), dimsNode(impl.OpSpread, 5, 2, 2), dimsNode(impl.OpSpread, 5), dimsNode(impl.OpSpread, 6, 2, 2, 3), dimsNode(impl.OpSpread, 6, 1, 3),
		dimsNode(impl.OpReshape, 3, 2, 3), dimsNode(impl.OpReshape, 3, 6), dimsNode(impl.OpReshape, 5, 1, 1), dimsNode(impl.OpReshape, 6, 3),
		intsNode(impl.OpSlice, 2, 0, 1, 3, 1), intsNode(impl.OpSlice, 2, 0, 1, 2, 3), intsNode(impl.OpSlice, 2, 0, 4, 1, 4096), intsNode(impl.OpSlice, 3, 0, 0, 2, 2), intsNode(impl.OpSlice, 3, 1, 1, 1, 1),
		intsNode(impl.OpPad, 0, 0, 0, 0, 0), intsNode(impl.OpPad, 0, 0, 1, 2, 3), intsNode(impl.OpPad, 3, 1, 2, 0, 1), intsNode(impl.OpPad, 3, 0, 0, 1, 2), intsNode(impl.OpPad, 6, 0, 1, 1, 4096), intsNode(impl.OpPad, 6, 0, 0, 0, 4095), intsNode(impl.OpPad, 6, 1, 0, 2, 4),
		intsNode(impl.OpGather, 2, 0, 4, 1, 1, 4, 4), intsNode(impl.OpGather, 3, 0, 2), intsNode(impl.OpGather, 3, 1, 1, 0, 0), intsNode(impl.OpScatter, 2, 0, 6, 5, 1, 1, 5, 0), intsNode(impl.OpScatter, 3, 0, 1, 0, 0, 0), intsNode(impl.OpScatter, 3, 1, 3, 2, 0),
		intsNode(impl.OpWindow, 2, 0, 3, 1), intsNode(impl.OpWindow, 2, 0, 2, 3), intsNode(impl.OpWindow, 2, 0, 1, 2), intsNode(impl.OpWindow, 3, 0, 2, 1), intsNode(impl.OpWindow, 3, 1, 2, 1), intsNode(impl.OpWindow, 2, 0, 5, math.MaxInt),
		intsNode(impl.OpFold, 3, 0, 1, 4), intsNode(impl.OpFold, 3, 0, 4, 11), intsNode(impl.OpFold, 3, 0, 2, 7), intsNode(impl.OpFold, 6, 0, math.MaxInt, 3), intsNode(impl.OpFold, 4, 0, 1, 3),
	}
}

func slopeGround() []impl.Node {
	return []impl.Node{inputNode(2), inputNode(2), inputNode(5), inputNode(3, 2), inputNode(2, 2), inputNode(), inputNode(1, 3)}
}

// slopeGraphs are small graphs that are GraphOk, of each Op; among them some
// with an Arg that several nodes use, an Out twice, no Outs, no inputs, and
// nodes that are not used.
func slopeGraphs() []impl.Graph {
	scalar := []impl.Node{inputNode(), argsNode(impl.OpMul, 0, 0), argsNode(impl.OpInv, 1), argsNode(impl.OpMul, 1, 2), argsNode(impl.OpSub, 3, 0), argsNode(impl.OpMul, 4, 4)}
	graphs := []impl.Graph{
		{}, graphOf(nil, inputNode(2)), graphOf(ints(0), inputNode(2)), graphOf(ints(0, 0, 0), inputNode(2)), graphOf(ints(0, 0), constNode(ints(2), 1, 2)), graphOf(nil, constNode(nil, 3)),
		graphOf(ints(5), scalar...), graphOf(ints(5, 1, 5, 0, 3), scalar...), graphOf(nil, scalar...), graphOf(ints(1), scalar...), graphOf(ints(2, 2), scalar...),
		graphOf(ints(2), constNode(ints(2), 1, 2), argsNode(impl.OpInv, 0), argsNode(impl.OpMul, 0, 1)), graphOf(ints(2, 0), inputNode(2), inputNode(3), argsNode(impl.OpNeg, 0)),
	}
	for _, n := range slopeNodes() {
		nodes := append(slopeGround(), n)
		last := len(nodes) - 1
		graphs = append(graphs, graphOf(ints(last), nodes...), graphOf(ints(last, 0, last), append(nodes, argsNode(impl.OpNeg, last))...))
	}
	return graphs
}

func TestSlopeGraphsHaveAllOps(t *testing.T) {
	for i, g := range slopeGraphs() {
		if !checkGraphOk(t, g) {
			t.Errorf("graph %d is refused: %+v", i, g)
		}
	}
	for op := 1; op <= 19; op++ {
		if !slices.ContainsFunc(slopeNodes(), func(n impl.Node) bool { return n.Op == op }) {
			t.Errorf("Op %d is not there", op)
		}
	}
}

func TestPushAndPullAgainstWords(t *testing.T) {
	source := rand.New(rand.NewSource(74))
	for _, g := range append(slopeGraphs(), someGraphs(250, 75)...) {
		for range 2 {
			inputs := inputsFor(source, g)
			checkPush(t, g, inputs, inputsFor(source, g))
			checkPull(t, g, inputs, seedsFor(source, g))
		}
	}
}

// Each node's own slope, not that of the Outs alone: all of them are Outs here.
func TestPushAndPullOfAllNodes(t *testing.T) {
	source := rand.New(rand.NewSource(76))
	for _, g := range someGraphs(100, 77) {
		g.Outs = nil
		for number := range g.Nodes {
			g.Outs = append(g.Outs, number)
		}
		inputs := inputsFor(source, g)
		checkPush(t, g, inputs, inputsFor(source, g))
		checkPull(t, g, inputs, seedsFor(source, g))
	}
}

func modulo(xs ...int) []int {
	list := []int{}
	for _, x := range xs {
		list = append(list, moduloPrime(x))
	}
	return list
}

// A slopeCase is a node behind the inputs x, 3 and -2, and y, 5 and 4, which
// move by 7 and 11, and 13 and 17; the slope it must have, and what a seed must
// pull to x and to y. The seed is 1, 10, 100 ..
type slopeCase struct {
	node  impl.Node
	slope impl.Tensor
	toX   []int
	toY   []int
}

func (c slopeCase) check(t *testing.T) {
	t.Helper()
	inputs := tensors(tensorOf(ints(2), modulo(3, -2)...), tensorOf(ints(2), 5, 4))
	moves := tensors(tensorOf(ints(2), 7, 11), tensorOf(ints(2), 13, 17))
	g := graphOf(ints(2), inputNode(2), inputNode(2), c.node)
	_, slopes := impl.Push(g, inputs, moves)
	if !sameTensors(slopes, tensors(c.slope)) {
		t.Errorf("the slope of %+v is %v, not %v", c.node, slopes, c.slope)
	}
	power := 1
	seed := built(c.slope.Dims, func([]int) int {
		power *= 10
		return power / 10
	})
	want := tensors(tensorOf(ints(2), modulo(c.toX...)...), tensorOf(ints(2), modulo(c.toY...)...))
	if pulled := impl.Pull(g, inputs, tensors(seed)); !sameTensors(pulled, want) {
		t.Errorf("through %+v is pulled %v, not %v", c.node, pulled, want)
	}
}

func TestSlopesOfEachOp(t *testing.T) {
	slope := func(dims []int, data ...int) impl.Tensor { return tensorOf(dims, modulo(data...)...) }
	none, two := ints(0, 0), ints(2)
	cases := []slopeCase{
		{node: constNode(two, 8, 9), slope: slope(two, 0, 0), toX: none, toY: none},
		{node: argsNode(impl.OpAdd, 0, 1), slope: slope(two, 20, 28), toX: ints(1, 10), toY: ints(1, 10)},
		{node: argsNode(impl.OpAdd, 0, 0), slope: slope(two, 14, 22), toX: ints(2, 20), toY: none},
		{node: argsNode(impl.OpSub, 0, 1), slope: slope(two, -6, -6), toX: ints(1, 10), toY: ints(-1, -10)},
		{node: argsNode(impl.OpSub, 1, 1), slope: slope(two, 0, 0), toX: none, toY: none},
		{node: argsNode(impl.OpMul, 0, 1), slope: slope(two, 74, 10), toX: ints(5, 40), toY: ints(3, -20)},
		{node: argsNode(impl.OpMul, 0, 0), slope: slope(two, 42, -44), toX: ints(6, -40), toY: none},
		{node: argsNode(impl.OpNeg, 1), slope: slope(two, -13, -17), toX: none, toY: ints(-1, -10)},
		{node: argsNode(impl.OpInv, 0), slope: slope(two, impl.Over(-7, 9), impl.Over(-11, 4)), toX: ints(impl.Over(-1, 9), impl.Over(-10, 4)), toY: none},
		{node: argsNode(impl.OpStep, 0), slope: slope(two, 0, 0), toX: none, toY: none},
		{node: argsNode(impl.OpRelu, 0), slope: slope(two, 7, 0), toX: ints(1, 0), toY: none},
		{node: intsNode(impl.OpTop, 0, 0), slope: slope(two, 0, 0), toX: none, toY: none},
		{node: formNode("a->", 0), slope: slope(nil, 18), toX: ints(1, 1), toY: none},
		{node: formNode("a,a->", 0, 1), slope: slope(nil, 84), toX: ints(5, 4), toY: ints(3, -2)},
		{node: formNode("a,b->", 0, 1), slope: slope(nil, 192), toX: ints(9, 9), toY: ints(1, 1)},
		{node: formNode("a,b->b", 0, 1), slope: slope(two, 103, 89), toX: ints(45, 45), toY: ints(1, 10)},
		{node: formNode("a,b->ab", 0, 1), slope: slope(ints(2, 2), 74, 79, 29, 10), toX: ints(45, 4500), toY: ints(-197, -1970)},
		{node: formNode("a,b->ba", 0, 0), slope: slope(ints(2, 2), 42, 19, 19, -44), toX: ints(6-220, 330-4000), toY: none},
		{node: formNode("a,a,a,a,a,a->", 0, 0, 0, 0, 0, 0), slope: slope(nil, 6*243*7-6*32*11), toX: ints(1458, -192), toY: none},
		{node: dimsNode(impl.OpSpread, 0, 3, 2), slope: slope(ints(3, 2), 7, 11, 7, 11, 7, 11), toX: ints(10101, 101010), toY: none},
		{node: dimsNode(impl.OpReshape, 1, 2, 1), slope: slope(ints(2, 1), 13, 17), toX: none, toY: ints(1, 10)},
		{node: intsNode(impl.OpSlice, 0, 0, 1, 1, 1), slope: slope(ints(1), 11), toX: ints(0, 1), toY: none},
		{node: intsNode(impl.OpPad, 0, 0, 1, 2, 1), slope: slope(ints(6), 0, 7, 0, 11, 0, 0), toX: ints(10, 1000), toY: none},
		{node: intsNode(impl.OpGather, 0, 0, 1, 1, 1), slope: slope(ints(3), 11, 11, 11), toX: ints(0, 111), toY: none},
		{node: intsNode(impl.OpScatter, 0, 0, 3, 2, 2), slope: slope(ints(3), 0, 0, 18), toX: ints(100, 100), toY: none},
		{node: intsNode(impl.OpWindow, 1, 0, 1, 1), slope: slope(ints(2, 1), 13, 17), toX: none, toY: ints(1, 10)},
	}
	for _, c := range cases {
		c.check(t)
	}
}

func TestSlopesOfWindowsAndFolds(t *testing.T) {
	cases := []struct {
		in    impl.Tensor
		node  impl.Node
		slope impl.Tensor
		seed  impl.Tensor
		to    []int
	}{
		{tensorOf(ints(5), 1, 2, 3, 4, 5), intsNode(impl.OpWindow, 0, 0, 3, 1), tensorOf(ints(3, 3), 1, 2, 3, 2, 3, 4, 3, 4, 5), tensorOf(ints(3, 3), 1, 10, 100, 2, 20, 200, 3, 30, 300), ints(1, 12, 123, 230, 300)},
		{tensorOf(ints(5), 1, 2, 3, 4, 5), intsNode(impl.OpWindow, 0, 0, 1, 3), tensorOf(ints(2, 1), 1, 4), tensorOf(ints(2, 1), 7, 8), ints(7, 0, 0, 8, 0)},
		{tensorOf(ints(2, 2), 1, 2, 3, 4), intsNode(impl.OpFold, 0, 0, 1, 3), tensorOf(ints(3), 1, 5, 4), tensorOf(ints(3), 1, 10, 100), ints(1, 10, 10, 100)},
		{tensorOf(ints(2, 2), 1, 2, 3, 4), intsNode(impl.OpFold, 0, 0, 3, 7), tensorOf(ints(7), 1, 2, 0, 3, 4, 0, 0), tensorOf(ints(7), 1, 2, 3, 4, 5, 6, 7), ints(1, 2, 4, 5)},
		{tensorOf(ints(1, 2), 6, 7), intsNode(impl.OpPad, 0, 0, 1, 0, 4096), tensorOf(ints(2, 2), 0, 0, 6, 7), tensorOf(ints(2, 2), 1, 2, 3, 4), ints(3, 4)},
		{tensorOf(ints(2, 2), 1, 2, 3, 4), formNode("aa->", 0), tensorOf(nil, 5), tensorOf(nil, 9), ints(9, 0, 0, 9)},
		{tensorOf(ints(2, 2), 1, 2, 3, 4), formNode("aa->a", 0), tensorOf(ints(2), 1, 4), tensorOf(ints(2), 8, 9), ints(8, 0, 0, 9)},
		{tensorOf(ints(2, 2), 1, 2, 3, 4), formNode("ab->b", 0), tensorOf(ints(2), 4, 6), tensorOf(ints(2), 8, 9), ints(8, 9, 8, 9)},
	}
	for _, c := range cases {
		g := graphOf(ints(1), inputNode(c.in.Dims...), c.node)
		// Each of these moves as its Arg does: the slope along the input is the value.
		values, slopes := impl.Push(g, tensors(c.in), tensors(c.in))
		if !sameTensors(slopes, tensors(c.slope)) || !sameTensors(values, slopes) {
			t.Errorf("the slope of %+v is %v, not %v", c.node, slopes, c.slope)
		}
		if pulled := impl.Pull(g, tensors(c.in), tensors(c.seed)); !sameTensors(pulled, tensors(tensorOf(c.in.Dims, c.to...))) {
			t.Errorf("through %+v is pulled %v, not %v", c.node, pulled, c.to)
		}
	}
}

func TestSlopesOfInverseAndReluAtEdges(t *testing.T) {
	const turn = (impl.Prime - 1) / 2
	x := tensorOf(ints(6), 0, 1, impl.Prime-1, 2, turn, turn+1)
	seven := tensorOf(ints(6), 7, 7, 7, 7, 7, 7)
	// The greatest number above 0 is the opposite of the least below 0: so they
	// have one square, and it is a quarter.
	cases := []struct {
		op     int
		slopes []int
	}{
		{impl.OpInv, modulo(0, -7, -7, impl.Over(-7, 4), -28, -28)}, {impl.OpRelu, modulo(0, 7, 0, 7, 7, 0)}, {impl.OpStep, modulo(0, 0, 0, 0, 0, 0)},
	}
	for _, c := range cases {
		g := graphOf(ints(1), inputNode(6), argsNode(c.op, 0))
		_, slopes := impl.Push(g, tensors(x), tensors(seven))
		pulled := impl.Pull(g, tensors(x), tensors(seven))
		want := tensors(tensorOf(ints(6), c.slopes...))
		if !sameTensors(slopes, want) || !sameTensors(pulled, want) {
			t.Errorf("Op %d: slopes %v, pulled %v, not %v", c.op, slopes, pulled, want)
		}
	}
	// x times its inverse is 1 wherever there is one.
	g := graphOf(ints(2), inputNode(6), argsNode(impl.OpInv, 0), argsNode(impl.OpMul, 0, 1))
	if _, slopes := impl.Push(g, tensors(x), tensors(seven)); !sameTensors(slopes, tensors(tensorOf(ints(6), 0, 0, 0, 0, 0, 0))) {
		t.Errorf("x times its inverse moves by %v", slopes)
	}
}

// along is where the inputs are when they have gone this often along the moves.
func along(inputs []impl.Tensor, moves []impl.Tensor, times int) []impl.Tensor {
	list := []impl.Tensor{}
	for i, in := range inputs {
		moved := impl.Tensor{Dims: in.Dims}
		for place, x := range in.Data {
			sum := product(times, moves[i].Data[place])
			moved.Data = append(moved.Data, exact(sum.Add(sum, wide(x))))
		}
		list = append(list, moved)
	}
	return list
}

// derivative is that of the polynomial through the numbers at 0, 1, 2 .., at
// 0: the differences of each order, by turns added and subtracted, each over
// its order. The numbers must go on for one more than the polynomial's degree
// needs; false when they do not lie on it.
func derivative(numbers []int) (int, bool) {
	row, sum := slices.Clone(numbers), 0
	for order := 1; len(row) > 1; order++ {
		for i := range len(row) - 1 {
			row[i] = moduloPrime(row[i+1] - row[i])
		}
		row = row[:len(row)-1]
		share := overExact(wide(row[0]), wide(order))
		if order%2 == 0 {
			share = -share
		}
		sum = moduloPrime(sum + share)
	}
	return sum, row[0] == 0
}

func TestDerivative(t *testing.T) {
	cases := []struct {
		numbers []int
		slope   int
		fits    bool
	}{
		{ints(5, 5), 0, true}, {ints(5, 6), 1, false}, {ints(1, 3, 5), 2, true}, {ints(0, 1, 4, 9), 0, true}, {ints(1, 6, 15, 28), 3, true}, {ints(0, 3, 14, 39, 84), 1, true},
	}
	for _, c := range cases {
		if slope, fits := derivative(c.numbers); slope != c.slope || fits != c.fits {
			t.Errorf("derivative(%v) = %d, %v", c.numbers, slope, fits)
		}
	}
}

// checkDerivative holds P19 at one Out of the told degree.
func checkDerivative(t *testing.T, g impl.Graph, inputs []impl.Tensor, moves []impl.Tensor, degree int) {
	t.Helper()
	values := [][]impl.Tensor{}
	for times := range degree + 2 {
		values = append(values, impl.Eval(g, along(inputs, moves, times)))
	}
	_, slopes := impl.Push(g, inputs, moves)
	for place, got := range slopes[0].Data {
		numbers := []int{}
		for _, value := range values {
			numbers = append(numbers, value[0].Data[place])
		}
		want, fits := derivative(numbers)
		if !fits {
			t.Fatalf("%s is not of degree %d", wantText(g), degree)
		}
		if got != want {
			t.Fatalf("Push(%s, %v, %v) has the slope %d at %d, not %d", wantText(g), inputs, moves, got, place, want)
		}
	}
}

// polynomialGraphs leave out the Ops behind which mostly no degree is told, and
// multiply often.
func polynomialGraphs(count int, seed int64) []impl.Graph {
	source := rand.New(rand.NewSource(seed))
	graphs := []impl.Graph{}
	for range count {
		g, values := impl.Graph{}, []impl.Tensor{}
		for range 10 {
			n := randomNode(source, values)
			if last := len(values) - 1; last >= 0 && source.Intn(3) == 0 {
				other := slices.IndexFunc(values, func(value impl.Tensor) bool { return slices.Equal(value.Dims, values[last].Dims) })
				n = argsNode(impl.OpMul, last, other)
			}
			value := wantNode(n, picked(values, n.Args))
			if wantTensorOk(value) && len(value.Data) <= 20 && (n.Op < impl.OpInv || n.Op > impl.OpTop) {
				g.Nodes, values = append(g.Nodes, n), append(values, value)
			}
		}
		graphs = append(graphs, g)
	}
	return graphs
}

// P19: where a degree is told, the slope is that of the polynomial through the
// values along the moves.
func TestPushIsTheDerivative(t *testing.T) {
	source := rand.New(rand.NewSource(78))
	byDegree := make([]int, 31)
	for _, g := range append(append(slopeGraphs(), someGraphs(300, 79)...), polynomialGraphs(400, 98)...) {
		degrees := impl.Degrees(g)
		for number, degree := range degrees {
			told := degree >= 0 && degree <= 30 && (degree > 0 || source.Intn(4) == 0)
			if !told || degree == 1 && source.Intn(4) > 0 {
				continue
			}
			g.Outs = ints(number)
			checkDerivative(t, g, inputsFor(source, g), inputsFor(source, g), degree)
			byDegree[degree]++
		}
	}
	for degree, least := range ints(50, 100, 100, 50, 20, 10, 10, 5, 5) {
		if byDegree[degree] < least {
			t.Errorf("only %d nodes have the degree %d", byDegree[degree], degree)
		}
	}
}

// powerNodes has as its last node the input to the power of MaxDegree.
func powerNodes() []impl.Node {
	return []impl.Node{inputNode(), formNode(",,,,->", 0, 0, 0, 0, 0), formNode(",,,,->", 1, 1, 1, 1, 1), formNode(",,,,->", 2, 2, 2, 2, 2), formNode(",,,,->", 3, 3, 3, 3, 3), formNode(",,,->", 4, 3, 3, 3)}
}

func TestPushAtMaxDegree(t *testing.T) {
	g := graphOf(ints(5), powerNodes()...)
	x, move := tensors(tensorOf(nil, 3)), tensors(tensorOf(nil, 2))
	if got := impl.Degrees(g); !slices.Equal(got, ints(1, 5, 25, 125, 625, 1000)) {
		t.Fatalf("Degrees = %v", got)
	}
	checkDerivative(t, g, x, move, 1000)
	want := tensors(tensorOf(nil, impl.Times(2000, impl.Power(3, 999))))
	if _, slopes := impl.Push(g, x, move); !sameTensors(slopes, want) {
		t.Errorf("the slope is %v, not %v", slopes, want)
	}
	if pulled := impl.Pull(g, x, move); !sameTensors(pulled, want) {
		t.Errorf("pulled is %v, not %v", pulled, want)
	}
}

// P20: seeds times slopes are moves times what is pulled.
func TestPushAndPullAgree(t *testing.T) {
	source := rand.New(rand.NewSource(80))
	for _, g := range append(append(goodGraphs(), slopeGraphs()...), someGraphs(300, 81)...) {
		for range 2 {
			inputs, moves, seeds := inputsFor(source, g), inputsFor(source, g), seedsFor(source, g)
			_, slopes := impl.Push(g, inputs, moves)
			pulled := impl.Pull(g, inputs, seeds)
			if got, want := innerOfAll(t, moves, pulled), innerOfAll(t, seeds, slopes); got != want {
				t.Fatalf("%s at %v: seeds %v times slopes %v are %d; moves %v times pulled %v are %d", wantText(g), inputs, seeds, slopes, want, moves, pulled, got)
			}
		}
	}
}

// Work of just MaxWork, and large tensors.
func TestPushAndPullOfDearGraphs(t *testing.T) {
	source := rand.New(rand.NewSource(82))
	graphs := []impl.Graph{
		graphOf(ints(2), inputNode(256), inputNode(256), formNode("a,b->a", 0, 1)), graphOf(ints(1), inputNode(16, 16), formNode("ab,bc,cd,da,ac,bd->", 0, 0, 0, 0, 0, 0)),
		graphOf(ints(2), inputNode(64, 64), inputNode(16), formNode("ab,c->ca", 0, 1)), graphOf(ints(2, 2), inputNode(4096), intsNode(impl.OpPad, 0, 0, 0, 0, 0), formNode("a,a->", 0, 1)),
		graphOf(ints(1), inputNode(1), dimsNode(impl.OpSpread, 0, 64, 64)), graphOf(ints(1), inputNode(64), intsNode(impl.OpWindow, 0, 0, 33, 1)), graphOf(ints(1), inputNode(2), intsNode(impl.OpPad, 0, 0, 0, 0, 4094)),
		graphOf(ints(1), inputNode(1), intsNode(impl.OpPad, 0, 0, 4000, 95, 4096)), graphOf(ints(199), manyNodes(200)...),
	}
	for i, g := range graphs {
		inputs, moves, seeds := inputsFor(source, g), inputsFor(source, g), seedsFor(source, g)
		values, slopes := impl.Push(g, inputs, moves)
		pulled := impl.Pull(g, inputs, seeds)
		if !sameTensors(values, impl.Eval(g, inputs)) || innerOfAll(t, moves, pulled) != innerOfAll(t, seeds, slopes) {
			t.Errorf("Push and Pull do not agree at graph %d", i)
		}
	}
}

func TestPushAndPullOfWrong(t *testing.T) {
	six, three := tensorOf(ints(2, 3), 1, 2, 3, 4, 5, 6), tensorOf(ints(3), 7, 8, 9)
	nodes := []impl.Node{inputNode(2, 3), argsNode(impl.OpNeg, 0), inputNode(3), inputNode(2, 3)}
	right := tensors(six, three, six)
	wrong := [][]impl.Tensor{
		nil, {}, {six}, {six, three}, {six, three, six, six}, {six, three, six, {}}, {three, six, six}, {six, six, three}, {six, three, {}}, {{}, three, six}, {six, tensorOf(nil, 1), six},
		{tensorOf(ints(3, 2), 1, 2, 3, 4, 5, 6), three, six}, {tensorOf(ints(6), 1, 2, 3, 4, 5, 6), three, six}, {six, three, tensorOf(ints(1, 2, 3), 1, 2, 3, 4, 5, 6)},
		{six, tensorOf(ints(3), 7, 8), six}, {six, tensorOf(ints(3), 7, 8, 9, 10), six}, {six, tensorOf(ints(3), 7, -1, 9), six}, {six, three, tensorOf(ints(2, 3), 1, 2, 3, 4, 5, impl.Prime)},
		{six, tensorOf(ints(1, 3), 7, 8, 9), six}, {six, tensorOf(ints(3, 1), 7, 8, 9), six}, {tensorOf(ints(2, 3)), three, six}, {six, tensorOf(ints(3), math.MinInt, 8, 9), six}, {six, tensorOf(ints(3), 7, 8, math.MaxInt), six},
	}
	pushes := func(g impl.Graph, inputs []impl.Tensor, moves []impl.Tensor) bool {
		values, slopes := impl.Push(g, inputs, moves)
		return len(values) > 0 || len(slopes) > 0
	}
	// The Outs have the shapes of the inputs, so that one list of wrong tensors
	// is wrong as seeds, too.
	g := graphOf(ints(1, 2, 1), nodes...)
	if !pushes(g, right, right) || len(impl.Pull(g, right, right)) != 3 {
		t.Error("right tensors are refused")
	}
	for i, ts := range wrong {
		if pushes(g, ts, right) || pushes(g, right, ts) || pushes(g, ts, ts) {
			t.Errorf("Push gives something at wrong row %d", i)
		}
		if len(impl.Pull(g, ts, right)) > 0 || len(impl.Pull(g, right, ts)) > 0 || len(impl.Pull(g, ts, ts)) > 0 {
			t.Errorf("Pull gives something at wrong row %d", i)
		}
	}
	none := graphOf(nil, nodes...)
	if pulled := impl.Pull(none, right, nil); !sameTensors(pulled, tensors(impl.Fill(ints(2, 3), 0), impl.Fill(ints(3), 0), impl.Fill(ints(2, 3), 0))) {
		t.Errorf("without Outs is pulled %v", pulled)
	}
	if len(impl.Pull(none, right, tensors(six))) > 0 || len(impl.Pull(none, right, tensors(impl.Tensor{}))) > 0 || pushes(none, right, right) {
		t.Error("a graph without Outs")
	}
	if pushes(impl.Graph{}, nil, tensors(six)) || pushes(impl.Graph{}, tensors(six), nil) || len(impl.Pull(impl.Graph{}, nil, tensors(six))) > 0 || len(impl.Pull(impl.Graph{}, nil, nil)) > 0 {
		t.Error("a graph without nodes")
	}
	constant := graphOf(ints(0), constNode(nil, 4))
	values, slopes := impl.Push(constant, nil, nil)
	if !sameTensors(values, tensors(tensorOf(nil, 4))) || !sameTensors(slopes, tensors(tensorOf(nil, 0))) || pushes(constant, nil, tensors(tensorOf(nil, 1))) || len(impl.Pull(constant, nil, tensors(tensorOf(nil, 1)))) > 0 {
		t.Error("a graph without inputs")
	}
}

// wrongGraphs are not GraphOk, but would take tensors of their inputs' shapes.
func wrongGraphs() []impl.Graph {
	two := []impl.Node{inputNode(2), argsNode(impl.OpNeg, 0)}
	return []impl.Graph{
		graphOf(ints(2), two...), graphOf(ints(-1), two...), graphOf(ints(math.MinInt), two...), graphOf(ints(math.MaxInt), two...), graphOf(noughts(41), two...), graphOf(ints(0)), graphOf(ints(0), manyNodes(201)...),
		graphOf(ints(1), inputNode(2), argsNode(impl.OpNeg, 1)), graphOf(ints(1), inputNode(2), argsNode(impl.OpNeg, -1)), graphOf(ints(0), inputNode(2), argsNode(impl.OpAdd, 0)), graphOf(ints(0), inputNode(2), argsNode(20, 0)),
		graphOf(ints(0), inputNode(2), argsNode(0)), graphOf(nil, inputNode(2), intsNode(impl.OpGather, 0, 0, 2)), graphOf(ints(0), inputNode(2), formNode("ab->", 0)), graphOf(ints(0), inputNode(2), constNode(ints(1), -1)),
	}
}

func checkNoSlopes(t *testing.T, g impl.Graph, inputs []impl.Tensor, seeds []impl.Tensor) {
	t.Helper()
	values, slopes := impl.Push(g, inputs, inputs)
	if len(values) > 0 || len(slopes) > 0 || len(impl.Pull(g, inputs, seeds)) > 0 || len(impl.Degrees(g)) > 0 {
		t.Fatalf("%+v has slopes", g)
	}
	for _, keep := range [][]int{nil, {0}, {0, 1}, {-1}} {
		first, second := impl.KeepCost(g, keep)
		if impl.KeepOk(g, keep) || first != 0 || second != 0 {
			t.Fatalf("%v is kept of %+v", keep, g)
		}
	}
	if len(impl.BestKeep(g, math.MaxInt)) > 0 {
		t.Fatalf("something is kept of %+v", g)
	}
}

func TestSlopesOfWrongGraphs(t *testing.T) {
	two := tensorOf(ints(2), 1, 2)
	for _, g := range wrongGraphs() {
		inputs, seeds := []impl.Tensor{}, []impl.Tensor{}
		for range wantInputs(g) {
			inputs = append(inputs, two)
		}
		for range g.Outs {
			seeds = append(seeds, two)
		}
		checkNoSlopes(t, g, inputs, seeds)
		checkNoSlopes(t, g, nil, nil)
	}
	source := rand.New(rand.NewSource(83))
	wrong := 0
	for _, g := range someGraphs(200, 84) {
		spoilt := spoiltGraph(source, g)
		if _, ok := wantAll(spoilt, nil); ok {
			continue
		}
		wrong++
		checkNoSlopes(t, spoilt, inputsFor(source, g), seedsFor(source, g))
	}
	if wrong < 80 {
		t.Errorf("only %d graphs are wrong", wrong)
	}
}

// wantDegrees says what the document says of Degrees.
func wantDegrees(g impl.Graph) []int {
	degrees := []int{}
	for _, n := range g.Nodes {
		greatest, sum, untold := 0, 0, false
		for _, arg := range n.Args {
			greatest, sum, untold = max(greatest, degrees[arg]), sum+degrees[arg], untold || degrees[arg] == -1
		}
		degree := greatest
		switch {
		case n.Op == 1:
			degree = 1
		case n.Op == 5 || n.Op == 11:
			degree = sum
		case n.Op >= 7 && n.Op <= 10 && greatest > 0:
			untold = true
		}
		if untold || degree > 1000 {
			degree = -1
		}
		degrees = append(degrees, degree)
	}
	return degrees
}

func TestDegreesAgainstWords(t *testing.T) {
	for _, g := range append(append(goodGraphs(), slopeGraphs()...), someGraphs(300, 85)...) {
		if got, want := impl.Degrees(g), wantDegrees(g); !slices.Equal(got, want) {
			t.Fatalf("Degrees(%s) = %v, not %v", wantText(g), got, want)
		}
	}
}

func TestDegreesRows(t *testing.T) {
	if impl.MaxDegree != 1000 || impl.MaxBest != 12 {
		t.Error("the limits of chapter 7")
	}
	of := func(op int, args ...int) impl.Node { return argsNode(op, args...) }
	cases := []struct {
		nodes []impl.Node
		want  []int
	}{
		{nil, nil},
		{[]impl.Node{inputNode(), constNode(nil, 3), of(3, 0, 1), of(4, 1, 0), of(5, 0, 1), of(5, 0, 0), of(5, 5, 5), of(6, 6), of(3, 7, 5), of(4, 5, 7)}, ints(1, 0, 1, 1, 1, 2, 4, 4, 4, 4)},
		{[]impl.Node{inputNode(), constNode(nil, 3), of(7, 0), of(8, 0), of(9, 0), of(7, 1), of(8, 1), of(9, 1), of(7, 5), of(9, 2)}, ints(1, 0, -1, -1, -1, 0, 0, 0, 0, -1)},
		{[]impl.Node{inputNode(2), constNode(ints(2), 1, 2), intsNode(10, 0, 0), intsNode(10, 1, 0), of(3, 0, 2), of(3, 2, 0), of(4, 2, 2), of(5, 1, 2), of(5, 2, 1), of(6, 2), formNode("a,a->", 1, 2), formNode("a,a->", 2, 0)}, ints(1, 0, -1, 0, -1, -1, -1, -1, -1, -1, -1, -1)},
		{[]impl.Node{inputNode(2), formNode("a,a,a->a", 0, 0, 0), formNode("a,b,c->", 0, 1, 1), formNode("a->", 1), constNode(nil, 0), formNode(",a,->", 4, 1, 4), formNode("a->aa", 0)}, nil},
		{[]impl.Node{inputNode(2), formNode("a,a,a->a", 0, 0, 0), formNode("a,b,c->", 0, 1, 1), formNode("a->", 1), constNode(nil, 0), formNode(",a,->", 4, 1, 4)}, ints(1, 3, 7, 3, 0, 3)},
		{[]impl.Node{inputNode(2), of(5, 0, 0), dimsNode(12, 1, 2, 2), dimsNode(13, 2, 4), intsNode(14, 3, 0, 1, 2, 1), intsNode(15, 4, 0, 1, 1, 1), intsNode(16, 5, 0, 1), intsNode(17, 6, 0, 3, 2), intsNode(18, 7, 0, 2, 1), intsNode(19, 8, 0, 1, 3)}, ints(1, 2, 2, 2, 2, 2, 2, 2, 2, 2)},
		{append(powerNodes(), of(5, 5, 0), of(5, 5, 5), formNode(",,,,,->", 5, 5, 5, 5, 5, 5), of(3, 5, 5), of(6, 6), constNode(nil, 0), of(5, 5, 11), of(5, 6, 11), formNode(",->", 4, 4), of(3, 6, 0), of(7, 6), of(3, 0, 5)), ints(1, 5, 25, 125, 625, 1000, -1, -1, -1, 1000, -1, 0, 1000, -1, -1, -1, -1, 1000)},
	}
	for i, c := range cases {
		if got := impl.Degrees(graphOf(nil, c.nodes...)); !slices.Equal(got, c.want) {
			t.Errorf("row %d: Degrees = %v, not %v", i, got, c.want)
		}
	}
}

// wantStretches cuts the numbers of the nodes into stretches; an empty one may
// stand last.
func wantStretches(count int, keep []int) [][]int {
	stretches := [][]int{{}}
	for number := range count {
		last := len(stretches) - 1
		stretches[last] = append(stretches[last], number)
		if slices.Contains(keep, number) {
			stretches = append(stretches, []int{})
		}
	}
	return stretches
}

// wantKeep says what the document says of KeepOk and KeepCost, of a graph that
// is GraphOk.
func wantKeep(g impl.Graph, values []impl.Tensor, keep []int) (bool, int, int) {
	for i, number := range keep {
		if number < 0 || number >= len(g.Nodes) || i > 0 && number <= keep[i-1] {
			return false, 0, 0
		}
	}
	given := func(number int) bool { return g.Nodes[number].Op <= 2 }
	size := func(number int) int {
		if given(number) {
			return 0
		}
		return len(values[number].Data)
	}
	first, second, greatest := 0, 0, 0
	for _, stretch := range wantStretches(len(g.Nodes), keep) {
		own := 0
		for _, number := range stretch {
			for _, arg := range g.Nodes[number].Args {
				if !slices.Contains(stretch, arg) && !slices.Contains(keep, arg) && !given(arg) {
					return false, 0, 0
				}
			}
			second += size(number)
			if slices.Contains(keep, number) {
				first += size(number)
				continue
			}
			own += size(number)
			if !slices.Contains(stretch, len(g.Nodes)-1) {
				second += size(number)
			}
		}
		greatest = max(greatest, own)
	}
	return true, first + greatest, second
}

func checkKeep(t *testing.T, g impl.Graph, values []impl.Tensor, keep []int) bool {
	t.Helper()
	ok, first, second := wantKeep(g, values, keep)
	if got := impl.KeepOk(g, keep); got != ok {
		t.Fatalf("KeepOk(%s, %v) = %v", wantText(g), keep, got)
	}
	if gotFirst, gotSecond := impl.KeepCost(g, keep); gotFirst != first || gotSecond != second {
		t.Fatalf("KeepCost(%s, %v) = %d, %d, not %d, %d", wantText(g), keep, gotFirst, gotSecond, first, second)
	}
	return ok
}

// linkedGraph has vectors of many lengths: each but the inputs and consts is
// gathered from, or made with, nodes not far ahead of it.
func linkedGraph(source *rand.Rand, count int) impl.Graph {
	g := graphOf(nil, inputNode(1+source.Intn(3)))
	for number := 1; number < count; number++ {
		shapes := impl.Shapes(g)
		arg := max(0, number-1-source.Intn(1+source.Intn(3)))
		switch kind := source.Intn(12); {
		case kind == 0:
			g.Nodes = append(g.Nodes, inputNode(2))
		case kind == 1:
			g.Nodes = append(g.Nodes, constNode(ints(1), 3))
		case kind < 4:
			g.Nodes = append(g.Nodes, formNode("a,b->a", number-1, arg))
		default:
			g.Nodes = append(g.Nodes, intsNode(impl.OpGather, arg, append(ints(0), randomIndex(source, 1+source.Intn(6), shapes[arg][0])...)...))
		}
	}
	g.Outs = ints(count - 1)
	return g
}

func linkedGraphs(count int, most int, seed int64) []impl.Graph {
	source := rand.New(rand.NewSource(seed))
	graphs := []impl.Graph{}
	for range count {
		graphs = append(graphs, linkedGraph(source, 1+source.Intn(most)))
	}
	return graphs
}

func randomKeep(source *rand.Rand, count int) []int {
	keep, share := []int{}, 1+source.Intn(4)
	for number := range count {
		if source.Intn(4) < share {
			keep = append(keep, number)
		}
	}
	return keep
}

func TestKeepsAgainstWords(t *testing.T) {
	source := rand.New(rand.NewSource(86))
	good, wrong := 0, 0
	for _, g := range append(append(goodGraphs(), linkedGraphs(100, 14, 87)...), linkedGraphs(2, 200, 88)...) {
		values, _ := wantAll(g, nil)
		count := len(g.Nodes)
		checkKeep(t, g, values, nil)
		checkKeep(t, g, values, []int{})
		for range 12 {
			if checkKeep(t, g, values, randomKeep(source, count)) {
				good++
			} else {
				wrong++
			}
		}
		all := make([]int, count)
		for number := range all {
			all[number] = number
			checkKeep(t, g, values, ints(number))
		}
		if !checkKeep(t, g, values, all) {
			t.Fatalf("all of %s cannot be kept", wantText(g))
		}
	}
	if good < 500 || wrong < 500 {
		t.Errorf("%d are right, %d are not", good, wrong)
	}
}

func TestKeepsThatAreNoLists(t *testing.T) {
	g := graphOf(ints(4), manyNodes(5)...)
	refused := [][]int{
		{-1}, {5}, {6}, {math.MinInt}, {math.MaxInt}, {-1, 2}, {2, 5}, {2, 1}, {2, 2}, {0, 0}, {4, 4}, {1, 3, 2}, {3, 1, 2}, {1, 2, 2, 3}, {0, 1, 2, 3, 4, 5}, {-1, 0, 1, 2, 3, 4}, {4, 3, 2, 1, 0}, {0, 1, 2, 3, 4, 4},
		{math.MinInt, 1}, {1, math.MaxInt}, {math.MaxInt, math.MinInt}, {math.MinInt, math.MaxInt}, {-5}, {1, -1}, {0, math.MinInt}, {1 << 32}, {1<<32 + 1, 2},
	}
	for _, keep := range refused {
		first, second := impl.KeepCost(g, keep)
		if impl.KeepOk(g, keep) || first != 0 || second != 0 {
			t.Errorf("%v is kept", keep)
		}
	}
	if !impl.KeepOk(impl.Graph{}, nil) || impl.KeepOk(impl.Graph{}, ints(0)) || impl.KeepOk(impl.Graph{}, ints(-1)) {
		t.Error("KeepOk of a graph without nodes")
	}
	for _, keep := range [][]int{nil, {0}, {-1}} {
		if first, second := impl.KeepCost(impl.Graph{}, keep); first != 0 || second != 0 {
			t.Error("KeepCost of a graph without nodes")
		}
	}
}

func TestKeepRows(t *testing.T) {
	// Nodes 1 .. 4 have the size 2, one behind the other.
	chain := manyNodes(5)
	// Node 5 leans on node 1 once more; 6 is an OpConst, 7 has the size 6.
	side := append(manyNodes(5), argsNode(impl.OpAdd, 4, 1), constNode(ints(3), 1, 2, 3), formNode("a,b->ab", 5, 6))
	given := []impl.Node{inputNode(2), constNode(ints(2), 1, 2), inputNode(3)}
	cases := []struct {
		nodes         []impl.Node
		keep          []int
		ok            bool
		first, second int
	}{
		{chain, nil, true, 8, 8}, {chain, ints(0), true, 8, 8}, {chain, ints(1), true, 8, 8}, {chain, ints(2), true, 6, 10}, {chain, ints(3), true, 6, 12}, {chain, ints(4), true, 8, 8}, {chain, ints(0, 4), true, 8, 8},
		{chain, ints(1, 3), true, 6, 10}, {chain, ints(2, 4), true, 6, 10}, {chain, ints(3, 4), true, 8, 12}, {chain, ints(0, 1, 2, 3, 4), true, 8, 8}, {chain, ints(1, 2, 3, 4), true, 8, 8}, {chain, ints(0, 1, 3), true, 6, 10},
		{side, nil, true, 16, 16}, {side, ints(1), true, 16, 16}, {side, ints(2), false, 0, 0}, {side, ints(1, 2), true, 16, 16}, {side, ints(1, 3), true, 14, 18}, {side, ints(3, 4), false, 0, 0}, {side, ints(5), true, 10, 24}, {side, ints(4, 5), false, 0, 0},
		{side, ints(5, 6), true, 10, 24}, {side, ints(6), false, 0, 0}, {side, ints(1, 5), true, 10, 22}, {side, ints(7), true, 16, 16}, {side, ints(0, 7), true, 16, 16}, {side, ints(5, 7), true, 16, 24}, {side, ints(1, 6), false, 0, 0},
		{given, nil, true, 0, 0}, {given, ints(0), true, 0, 0}, {given, ints(0, 1, 2), true, 0, 0}, {given, ints(2), true, 0, 0},
		{[]impl.Node{inputNode(2), argsNode(impl.OpMul, 0, 0), argsNode(impl.OpNeg, 0)}, ints(1), true, 4, 4}, {[]impl.Node{inputNode(2), argsNode(impl.OpMul, 0, 0), argsNode(impl.OpMul, 1, 0), argsNode(impl.OpNeg, 0)}, ints(2), true, 4, 8},
	}
	for i, c := range cases {
		g := graphOf(nil, c.nodes...)
		if got := impl.KeepOk(g, c.keep); got != c.ok {
			t.Errorf("row %d: KeepOk(%v) = %v", i, c.keep, got)
		}
		if first, second := impl.KeepCost(g, c.keep); first != c.first || second != c.second {
			t.Errorf("row %d: KeepCost(%v) = %d, %d, not %d, %d", i, c.keep, first, second, c.first, c.second)
		}
	}
}

// eachKeep visits all ascending lists of numbers below count, in their order: a
// beginning first.
func eachKeep(count int, begun []int, visit func(keep []int)) {
	visit(begun)
	next := 0
	if len(begun) > 0 {
		next = begun[len(begun)-1] + 1
	}
	for ; next < count; next++ {
		eachKeep(count, append(slices.Clone(begun), next), visit)
	}
}

// A keptCost is a list that can be kept, with its numbers.
type keptCost struct {
	keep          []int
	first, second int
}

// keptCosts are those of all that is KeepOk, in the order of the lists.
func keptCosts(g impl.Graph) []keptCost {
	values, _ := wantAll(g, nil)
	costs := []keptCost{}
	eachKeep(len(g.Nodes), nil, func(keep []int) {
		if ok, first, second := wantKeep(g, values, keep); ok {
			costs = append(costs, keptCost{keep, first, second})
		}
	})
	return costs
}

// bestOf is the first of those with the least second number and then the least
// first; nothing when none has a first number of at most most.
func bestOf(costs []keptCost, most int) []int {
	var best *keptCost
	for i, c := range costs {
		better := best == nil || c.second < best.second || c.second == best.second && c.first < best.first
		if c.first <= most && better {
			best = &costs[i]
		}
	}
	if best == nil {
		return nil
	}
	return best.keep
}

// mostsFor has each first number that something has, with its neighbours.
func mostsFor(costs []keptCost) []int {
	mosts := ints(-1, 0, 1, math.MinInt, math.MaxInt)
	for _, c := range costs {
		mosts = append(mosts, c.first-1, c.first, c.first+1)
	}
	slices.Sort(mosts)
	return slices.Compact(mosts)
}

func TestBestKeepAgainstWords(t *testing.T) {
	graphs := append(linkedGraphs(60, 9, 89), graphOf(ints(9), manyNodes(10)...))
	for _, g := range someGraphs(60, 90) {
		if len(g.Nodes) <= 9 {
			graphs = append(graphs, g)
		}
	}
	answers, ties := 0, 0
	for _, g := range graphs {
		costs := keptCosts(g)
		for _, most := range mostsFor(costs) {
			got, want := impl.BestKeep(g, most), bestOf(costs, most)
			if !slices.Equal(got, want) {
				t.Fatalf("BestKeep(%s, %d) = %v, not %v", wantText(g), most, got, want)
			}
			if len(got) == 0 {
				continue
			}
			answers++
			first, second := impl.KeepCost(g, got)
			if slices.ContainsFunc(costs, func(c keptCost) bool { return c.first == first && c.second == second && !slices.Equal(c.keep, got) }) {
				ties++
			}
		}
	}
	if answers < 100 || ties < 50 {
		t.Errorf("%d answers, %d of them with ties", answers, ties)
	}
}

// P21: what BestKeep gives fits, and nothing that fits needs less work.
func TestBestKeepFitsAndNeedsLeastWork(t *testing.T) {
	fitting := 0
	for _, g := range append(linkedGraphs(40, 8, 91), linkedGraphs(2, 12, 92)...) {
		for most := -1; most < 30; most += 2 {
			best := impl.BestKeep(g, most)
			first, second := impl.KeepCost(g, best)
			fits := impl.KeepOk(g, best) && first <= most
			eachKeep(len(g.Nodes), nil, func(keep []int) {
				space, work := impl.KeepCost(g, keep)
				if !impl.KeepOk(g, keep) || space > most {
					return
				}
				if !fits || work < second {
					t.Fatalf("BestKeep(%s, %d) = %v needs %d, but %v needs %d", wantText(g), most, best, second, keep, work)
				}
			})
			if fits {
				fitting++
			} else if len(best) > 0 {
				t.Fatalf("BestKeep(%s, %d) = %v does not fit", wantText(g), most, best)
			}
		}
	}
	if fitting < 100 {
		t.Errorf("only %d fit", fitting)
	}
}

func TestBestKeepRows(t *testing.T) {
	chain := manyNodes(5)
	// Its lengths are 4, 1, 4, 1, 4: the small ones are kept.
	waist := []impl.Node{
		inputNode(1), intsNode(impl.OpGather, 0, 0, 0, 0, 0, 0), intsNode(impl.OpGather, 1, 0, 3), intsNode(impl.OpGather, 2, 0, 0, 0, 0, 0), intsNode(impl.OpGather, 3, 0, 3), intsNode(impl.OpGather, 4, 0, 0, 0, 0, 0),
	}
	given := []impl.Node{inputNode(2), constNode(ints(2), 1, 2), inputNode(3)}
	cases := []struct {
		nodes []impl.Node
		most  int
		want  []int
	}{
		{chain, math.MaxInt, nil}, {chain, 8, nil}, {chain, 7, ints(0, 1, 3)}, {chain, 6, ints(0, 1, 3)}, {chain, 5, nil}, {chain, 0, nil}, {chain, -1, nil}, {chain, math.MinInt, nil},
		{waist, 14, nil}, {waist, 13, ints(0, 1, 3)}, {waist, 12, ints(0, 1, 2, 4)}, {waist, 10, ints(0, 1, 2, 4)}, {waist, 9, ints(0, 3)}, {waist, 8, ints(0, 2, 4)}, {waist, 6, ints(0, 2, 4)}, {waist, 5, nil},
		{given, 0, nil}, {given, -1, nil}, {given, math.MaxInt, nil}, {nil, 0, nil}, {nil, math.MaxInt, nil}, {nil, -1, nil},
	}
	for i, c := range cases {
		if got := impl.BestKeep(graphOf(nil, c.nodes...), c.most); !slices.Equal(got, c.want) {
			t.Errorf("row %d: BestKeep(%d) = %v, not %v", i, c.most, got, c.want)
		}
	}
}

func TestBestKeepAtMaxBest(t *testing.T) {
	twelve := graphOf(ints(11), manyNodes(12)...)
	costs := keptCosts(twelve)
	told := 0
	for _, most := range mostsFor(costs) {
		got := impl.BestKeep(twelve, most)
		if want := bestOf(costs, most); !slices.Equal(got, want) {
			t.Errorf("BestKeep(%d) = %v, not %v", most, got, want)
		}
		told += len(got)
	}
	if told == 0 {
		t.Error("nothing is kept of twelve nodes")
	}
	// What is kept of thirteen would fit as well.
	thirteen := graphOf(ints(12), manyNodes(13)...)
	if first, _ := impl.KeepCost(thirteen, ints(4, 8)); first != 12 {
		t.Errorf("KeepCost of thirteen nodes: %d", first)
	}
	for most := range 30 {
		if got := impl.BestKeep(thirteen, most); len(got) > 0 {
			t.Errorf("BestKeep of thirteen nodes at %d = %v", most, got)
		}
	}
	if got := impl.BestKeep(graphOf(nil, manyNodes(200)...), 60); len(got) > 0 {
		t.Errorf("BestKeep of 200 nodes = %v", got)
	}
}

func TestSlopeListsAreLeftAlone(t *testing.T) {
	source := rand.New(rand.NewSource(93))
	shared := graphOf(ints(0, 1, 0, 2, 1), inputNode(2), inputNode(2), dimsNode(impl.OpReshape, 0, 2, 1), argsNode(impl.OpAdd, 0, 1))
	for _, g := range append(append(slopeGraphs(), someGraphs(60, 94)...), shared, graphOf(ints(3), shared.Nodes...)) {
		inputs, moves, seeds := inputsFor(source, g), inputsFor(source, g), seedsFor(source, g)
		checkAlone(t, "Push", listsOf(g, append(slices.Clone(inputs), moves...)), func(lists [][]int) [][]int {
			made, ts := withLists(g, append(slices.Clone(inputs), moves...), lists)
			values, slopes := impl.Push(made, ts[:len(inputs)], ts[len(inputs):])
			return append(listsOfTensors(values), listsOfTensors(slopes)...)
		})
		checkAlone(t, "Pull", listsOf(g, append(slices.Clone(inputs), seeds...)), func(lists [][]int) [][]int {
			made, ts := withLists(g, append(slices.Clone(inputs), seeds...), lists)
			return listsOfTensors(impl.Pull(made, ts[:len(inputs)], ts[len(inputs):]))
		})
		checkAlone(t, "Degrees and BestKeep", listsOf(g, nil), func(lists [][]int) [][]int {
			made, _ := withLists(g, nil, lists)
			return [][]int{impl.Degrees(made), impl.BestKeep(made, 6), impl.BestKeep(made, 12)}
		})
		for _, keep := range [][]int{randomKeep(source, len(g.Nodes)), {}, {0}, {1, 0}} {
			checkAlone(t, "KeepOk and KeepCost", append(listsOf(g, nil), keep), func(lists [][]int) [][]int {
				made, _ := withLists(g, nil, lists[:len(lists)-1])
				first, second := impl.KeepCost(made, lists[len(lists)-1])
				ok := 0
				if impl.KeepOk(made, lists[len(lists)-1]) {
					ok = 1
				}
				return [][]int{{first, second, ok}}
			})
		}
	}
}

// The lists of nodes and of tensors are left alone, too, with the room behind
// them.
func TestSlopeGraphsAndTensorsAreLeftAlone(t *testing.T) {
	source := rand.New(rand.NewSource(95))
	roomy := func(ts []impl.Tensor) []impl.Tensor {
		return append(slices.Clone(ts), tensorOf(ints(1), 77), tensorOf(ints(1), 78))[:len(ts)]
	}
	whole := func(ts []impl.Tensor) []impl.Tensor { return slices.Clone(ts[:cap(ts)]) }
	for _, g := range append(slopeGraphs(), someGraphs(60, 96)...) {
		g.Nodes = append(slices.Clone(g.Nodes), impl.Node{Op: 77}, impl.Node{Op: 78})[:len(g.Nodes)]
		inputs, moves, seeds := roomy(inputsFor(source, g)), roomy(inputsFor(source, g)), roomy(seedsFor(source, g))
		before := copiedGraph(impl.Graph{Nodes: g.Nodes[:cap(g.Nodes)], Outs: g.Outs})
		kept := [][]impl.Tensor{whole(inputs), whole(moves), whole(seeds)}
		impl.Push(g, inputs, moves)
		impl.Pull(g, inputs, seeds)
		impl.Degrees(g)
		impl.KeepOk(g, ints(0))
		impl.KeepCost(g, ints(0))
		impl.BestKeep(g, 8)
		if !sameGraph(before, impl.Graph{Nodes: g.Nodes[:cap(g.Nodes)], Outs: g.Outs}) || !reflect.DeepEqual(kept, [][]impl.Tensor{whole(inputs), whole(moves), whole(seeds)}) {
			t.Fatalf("%s has changed", wantText(g))
		}
	}
}

func TestRoomBehindSlopeListsIsNotRead(t *testing.T) {
	two := tensors(tensorOf(ints(2), 1, 2), tensorOf(ints(2), 3, 4))
	g := graphOf(ints(0, 1), inputNode(2), inputNode(2))
	values, slopes := impl.Push(g, two, two[:1])
	if len(values) > 0 || len(slopes) > 0 || len(impl.Pull(g, two, two[:1])) > 0 || len(impl.Pull(g, two[:1], two)) > 0 {
		t.Error("a tensor was read behind its list")
	}
	values, slopes = impl.Push(g, two[:1], two)
	if len(values) > 0 || len(slopes) > 0 {
		t.Error("an input was read behind its list")
	}
	side := graphOf(nil, inputNode(2), argsNode(impl.OpNeg, 0), argsNode(impl.OpNeg, 1), argsNode(impl.OpAdd, 1, 2))
	if keep := ints(1, 2); !impl.KeepOk(side, keep) || impl.KeepOk(side, keep[1:]) || impl.KeepOk(side, ints(2, 1)[:1]) || !impl.KeepOk(side, ints(-1)[:0]) {
		t.Error("a number was read behind its list")
	}
	nodes := []impl.Node{inputNode(2), argsNode(impl.OpNeg, 0)}
	short := graphOf(nil, nodes[:1]...)
	if len(impl.Degrees(short)) != 1 || impl.KeepOk(short, ints(1)) {
		t.Error("a node was read behind its list")
	}
}

// What Push and Pull do with one graph they do with another that says the same
// in other words.
func TestSlopesOfTheSameInOtherWords(t *testing.T) {
	source := rand.New(rand.NewSource(97))
	pairs := [][2]string{
		{"2 mul 0 1\nout 2\n", "2 contract 0 1 a,a->a\nout 2\n"}, {"2 sub 0 1\nout 2\n", "2 neg 1\n3 add 0 2\nout 3\n"}, {"2 add 0 0\nout 2\n", "2 const [2] 2 2\n3 mul 2 0\nout 3\n"},
		{"2 contract 0 1 a,b->ba\nout 2\n", "2 reshape 1 [2 1]\n3 spread 2 [2 2]\n4 spread 0 [2 2]\n5 mul 3 4\nout 5\n"}, {"2 slice 0 (0 1 1 1)\nout 2\n", "2 gather 0 (0 1)\nout 2\n"},
		{"2 relu 0\nout 2\n", "2 step 0\n3 mul 2 0\nout 3\n"}, {"2 inv 0\n3 inv 2\nout 3\n", "out 0\n"}, {"2 pad 1 (0 1 0 1)\nout 2\n", "2 scatter 1 (0 4 1 3)\nout 2\n"}, {"2 window 0 (0 1 1)\n3 fold 2 (0 1 2)\nout 3\n", "out 0\n"},
	}
	for _, pair := range pairs {
		inputs := tensors(built(ints(2), func([]int) int { return 1 + source.Intn(9) }), randomTensor(source, ints(2)))
		moves := tensors(randomTensor(source, ints(2)), randomTensor(source, ints(2)))
		var slopes, pulled [2][]impl.Tensor
		for i, text := range pair {
			g, ok := impl.ReadGraph("0 input [2]\n1 input [2]\n" + text)
			if !ok {
				t.Fatalf("%s is no graph", strings.ReplaceAll(text, "\n", "; "))
			}
			_, slopes[i] = impl.Push(g, inputs, moves)
			seeds := []impl.Tensor{}
			for _, slope := range slopes[i] {
				seeds = append(seeds, built(slope.Dims, func(index []int) int { return 5 + 3*len(index) + index[0] }))
			}
			pulled[i] = impl.Pull(g, inputs, seeds)
		}
		if len(slopes[0]) != 1 || !sameTensors(slopes[0], slopes[1]) || len(pulled[0]) != 2 || !sameTensors(pulled[0], pulled[1]) {
			t.Errorf("%v: slopes %v, pulled %v", pair, slopes, pulled)
		}
	}
}

package tests

import (
	"fmt"
	"math"
	"math/big"
	"math/rand"
	"reflect"
	"slices"
	"strconv"
	"strings"
	"testing"

	"loop.example/g00033/impl"
)

// opWords are the words of the Ops, by their numbers.
func opWords() []string {
	return strings.Fields("? input const add sub mul neg inv step relu top contract spread reshape slice pad gather scatter window fold")
}

func usesDims(op int) bool { return slices.Contains(ints(1, 2, 12, 13), op) }

func usesInts(op int) bool { return slices.Contains(ints(10, 14, 15, 16, 17, 18, 19), op) }

// wantNode says what the document says that a node gives of its Args; no tensor
// when the node is not as its Op wants it. An OpInput gives noughts.
func wantNode(n impl.Node, args []impl.Tensor) impl.Tensor {
	spoilt := len(n.Dims) > 0 && !usesDims(n.Op) || len(n.Ints) > 0 && !usesInts(n.Op) || n.Form != "" && n.Op != 11 || len(n.Data) > 0 && n.Op != 2
	if spoilt {
		return impl.Tensor{}
	}
	switch {
	case n.Op == 1 && len(args) == 0:
		return built(n.Dims, func([]int) int { return 0 })
	case n.Op == 2 && len(args) == 0 && wantTensorOk(tensorOf(n.Dims, n.Data...)):
		return tensorOf(n.Dims, n.Data...)
	case n.Op >= 3 && n.Op <= 5 && len(args) == 2 && slices.Equal(args[0].Dims, args[1].Dims):
		return wantTwoOf(n.Op-2, args[0], args[1])
	case n.Op == 11 && len(args) >= 1 && len(args) <= 6:
		return wantContract(n.Form, args)
	case n.Op >= 6 && n.Op <= 19 && len(args) == 1:
		return wantOfOne(n, args[0])
	}
	return impl.Tensor{}
}

func wantOfOne(n impl.Node, a impl.Tensor) impl.Tensor {
	if n.Op >= 6 && n.Op <= 9 {
		return built(a.Dims, func(index []int) int {
			x, _ := wantOne(n.Op-5, numberAt(a, index))
			return x
		})
	}
	switch n.Op {
	case 12:
		return wantSpreadOf(a, n.Dims)
	case 13:
		if wantDims(n.Dims) && wantTensorOk(tensorOf(n.Dims, a.Data...)) {
			return tensorOf(n.Dims, a.Data...)
		}
		return impl.Tensor{}
	case 16:
		if len(n.Ints) > 0 {
			return wantGather(a, n.Ints[0], n.Ints[1:])
		}
		return impl.Tensor{}
	case 17:
		if len(n.Ints) > 1 {
			return wantScatter(a, n.Ints[0], n.Ints[2:], n.Ints[1])
		}
		return impl.Tensor{}
	}
	return wantOfInts(n, a)
}

func wantOfInts(n impl.Node, a impl.Tensor) impl.Tensor {
	whole := impl.View{Dims: a.Dims, Strides: make([]int, len(a.Dims))}
	i := n.Ints
	switch {
	case n.Op == 10 && len(i) == 1 && hasAxis(a, i[0]):
		return wantTop(a, i[0])
	case n.Op == 14 && len(i) == 4 && i[3] >= 1:
		return wantTurned(a, wantSlice(whole, i[0], i[1], i[2], i[3]))
	case n.Op == 15 && len(i) == 4:
		return wantPad(a, i[0], i[1], i[2], i[3])
	case n.Op == 18 && len(i) == 3:
		return wantTurned(a, wantWindows(whole, i[0], i[1], i[2]))
	case n.Op == 19 && len(i) == 3:
		return wantFold(a, i[0], i[1], i[2])
	}
	return impl.Tensor{}
}

func wantTurned(a impl.Tensor, turn *wantedTurn) impl.Tensor {
	if turn == nil {
		return impl.Tensor{}
	}
	return built(turn.dims, func(index []int) int { return numberAt(a, turn.from(index)) })
}

func wantSpreadOf(a impl.Tensor, dims []int) impl.Tensor {
	ahead := len(dims) - len(a.Dims)
	if ahead < 0 || !wantDims(dims) {
		return impl.Tensor{}
	}
	for axis, length := range a.Dims {
		if length != 1 && length != dims[ahead+axis] {
			return impl.Tensor{}
		}
	}
	return built(dims, func(index []int) int { return spreadAt(a, index) })
}

func wantTop(a impl.Tensor, axis int) impl.Tensor {
	return built(a.Dims, func(index []int) int {
		line, first := lineOf(a, axis, index), 0
		for k, x := range line {
			if signedOf(x) > signedOf(line[first]) {
				first = k
			}
		}
		if first == index[axis] {
			return 1
		}
		return 0
	})
}

// wantAll says what each node gives; false when the graph is not as the document
// wants it. Without inputs, noughts come in.
func wantAll(g impl.Graph, inputs []impl.Tensor) ([]impl.Tensor, bool) {
	values := []impl.Tensor{}
	if len(g.Nodes) > 200 || len(g.Outs) > 40 {
		return nil, false
	}
	for number, n := range g.Nodes {
		args := []impl.Tensor{}
		for _, arg := range n.Args {
			if arg < 0 || arg >= number {
				return nil, false
			}
			args = append(args, values[arg])
		}
		value := wantNode(n, args)
		if !wantTensorOk(value) {
			return nil, false
		}
		if n.Op == 1 && inputs != nil {
			value, inputs = inputs[0], inputs[1:]
		}
		values = append(values, value)
	}
	for _, out := range g.Outs {
		if out < 0 || out >= len(g.Nodes) {
			return nil, false
		}
	}
	return values, true
}

func wantInputs(g impl.Graph) []int {
	numbers := []int{}
	for number, n := range g.Nodes {
		if n.Op == 1 {
			numbers = append(numbers, number)
		}
	}
	return numbers
}

// leansOn asks whether node number is out, one of its Args, and so on.
func leansOn(g impl.Graph, out int, number int) bool {
	return out == number || slices.ContainsFunc(g.Nodes[out].Args, func(arg int) bool { return leansOn(g, arg, number) })
}

func wantUsed(g impl.Graph) []int {
	numbers := []int{}
	for number := range g.Nodes {
		if slices.ContainsFunc(g.Outs, func(out int) bool { return leansOn(g, out, number) }) {
			numbers = append(numbers, number)
		}
	}
	return numbers
}

func wantCost(g impl.Graph, values []impl.Tensor) int {
	cost := 0
	for _, number := range wantUsed(g) {
		n := g.Nodes[number]
		switch n.Op {
		case 1, 2:
		case 11:
			cost += wantWork(n.Form, n.Args, values)
		default:
			cost += len(values[number].Data)
		}
	}
	return cost
}

func wantWork(form string, args []int, values []impl.Tensor) int {
	lengths := map[byte]int{}
	groups, _, _ := wantParts(form)
	for i, group := range groups {
		for axis := range len(group) {
			lengths[group[axis]] = values[args[i]].Dims[axis]
		}
	}
	work := 1
	for _, length := range lengths {
		work *= length
	}
	return work
}

// wantText says what the document says of ShowGraph.
func wantText(g impl.Graph) string {
	bare := func(list []int) string { return strings.Trim(fmt.Sprint(list), "[]") }
	text := ""
	for number, n := range g.Nodes {
		text += fmt.Sprintf("%d %s", number, opWords()[n.Op])
		for _, arg := range n.Args {
			text += fmt.Sprintf(" %d", arg)
		}
		if usesDims(n.Op) {
			text += " [" + bare(n.Dims) + "]"
		}
		if usesInts(n.Op) {
			text += " (" + bare(n.Ints) + ")"
		}
		if n.Op == 11 {
			text += " " + n.Form
		}
		for _, x := range n.Data {
			text += " " + impl.ShowNum(x)
		}
		text += "\n"
	}
	text += "out"
	for _, out := range g.Outs {
		text += fmt.Sprintf(" %d", out)
	}
	return text + "\n"
}

func sameNode(a impl.Node, b impl.Node) bool {
	return a.Op == b.Op && a.Form == b.Form && slices.Equal(a.Args, b.Args) && slices.Equal(a.Dims, b.Dims) && slices.Equal(a.Ints, b.Ints) && slices.Equal(a.Data, b.Data)
}

func sameGraph(a impl.Graph, b impl.Graph) bool {
	return slices.EqualFunc(a.Nodes, b.Nodes, sameNode) && slices.Equal(a.Outs, b.Outs)
}

func isNoGraph(g impl.Graph) bool { return len(g.Nodes) == 0 && len(g.Outs) == 0 }

func sameTensors(a []impl.Tensor, b []impl.Tensor) bool { return slices.EqualFunc(a, b, sameTensor) }

func copiedNode(n impl.Node) impl.Node {
	n.Args, n.Dims, n.Ints, n.Data = slices.Clone(n.Args), slices.Clone(n.Dims), slices.Clone(n.Ints), slices.Clone(n.Data)
	return n
}

func copiedGraph(g impl.Graph) impl.Graph {
	copied := impl.Graph{Outs: slices.Clone(g.Outs)}
	for _, n := range g.Nodes {
		copied.Nodes = append(copied.Nodes, copiedNode(n))
	}
	return copied
}

func inputNode(dims ...int) impl.Node { return impl.Node{Op: impl.OpInput, Dims: dims} }

func constNode(dims []int, data ...int) impl.Node {
	return impl.Node{Op: impl.OpConst, Dims: dims, Data: data}
}

func argsNode(op int, args ...int) impl.Node { return impl.Node{Op: op, Args: args} }

func intsNode(op int, arg int, list ...int) impl.Node {
	return impl.Node{Op: op, Args: ints(arg), Ints: list}
}

func dimsNode(op int, arg int, dims ...int) impl.Node {
	return impl.Node{Op: op, Args: ints(arg), Dims: dims}
}

func formNode(form string, args ...int) impl.Node {
	return impl.Node{Op: impl.OpContract, Args: args, Form: form}
}

func graphOf(outs []int, nodes ...impl.Node) impl.Graph { return impl.Graph{Nodes: nodes, Outs: outs} }

// groundNodes are nodes of many shapes, for others to stand behind.
func groundNodes() []impl.Node {
	return []impl.Node{
		inputNode(2, 3), inputNode(3, 2), inputNode(), inputNode(1, 3), constNode(ints(6), 1, 2, 3, 4, 5, 6),
		inputNode(7), inputNode(1, 1, 1, 1, 1, 1), inputNode(4096), inputNode(3, 3), inputNode(256), inputNode(257),
	}
}

// behindGround is a graph with one node behind the groundNodes, which is its
// Out.
func behindGround(n impl.Node) impl.Graph {
	nodes := append(groundNodes(), n)
	return graphOf(ints(len(nodes)-1), nodes...)
}

// rightNodes has one node of each Op, to stand behind the groundNodes.
func rightNodes() []impl.Node {
	return []impl.Node{
		inputNode(2, 2), constNode(ints(2), 5, 6), argsNode(impl.OpAdd, 0, 0), argsNode(impl.OpSub, 1, 1), argsNode(impl.OpMul, 2, 2),
		argsNode(impl.OpNeg, 0), argsNode(impl.OpInv, 1), argsNode(impl.OpStep, 4), argsNode(impl.OpRelu, 2), intsNode(impl.OpTop, 0, 1),
		formNode("ij,jk->ik", 0, 1), dimsNode(impl.OpSpread, 3, 4, 2, 3), dimsNode(impl.OpReshape, 0, 6), intsNode(impl.OpSlice, 5, 0, 1, 3, 2),
		intsNode(impl.OpPad, 0, 1, 1, 2, 1), intsNode(impl.OpGather, 0, 1, 2, 0), intsNode(impl.OpScatter, 0, 1, 4, 3, 0, 3),
		intsNode(impl.OpWindow, 5, 0, 3, 2), intsNode(impl.OpFold, 8, 0, 2, 7),
	}
}

// checkGraphOk holds GraphOk, and what hangs on it, against the document's
// words.
func checkGraphOk(t *testing.T, g impl.Graph) bool {
	t.Helper()
	values, ok := wantAll(g, nil)
	if impl.GraphOk(g) != ok {
		t.Fatalf("GraphOk(%+v) is not %v", g, ok)
	}
	if !ok {
		checkNothing(t, g)
		return false
	}
	shapes := impl.Shapes(g)
	if len(shapes) != len(g.Nodes) {
		t.Fatalf("Shapes(%+v) = %v", g, shapes)
	}
	for number, value := range values {
		if !slices.Equal(shapes[number], value.Dims) {
			t.Fatalf("Shapes(%+v) = %v, not %v at %d", g, shapes, value.Dims, number)
		}
	}
	if got, want := impl.Inputs(g), wantInputs(g); !slices.Equal(got, want) {
		t.Fatalf("Inputs(%+v) = %v, not %v", g, got, want)
	}
	return true
}

// checkNothing holds the answers at what is not GraphOk.
func checkNothing(t *testing.T, g impl.Graph) {
	t.Helper()
	if impl.GraphOk(g) || len(impl.Shapes(g)) > 0 || len(impl.Inputs(g)) > 0 || len(impl.Used(g)) > 0 || impl.Cost(g) != 0 || impl.ShowGraph(g) != "" {
		t.Fatalf("something comes of %+v", g)
	}
	inputs := []impl.Tensor{}
	for _, number := range wantInputs(g) {
		inputs = append(inputs, impl.Fill(g.Nodes[number].Dims, 1))
	}
	if len(impl.EvalAll(g, inputs)) > 0 || len(impl.Eval(g, inputs)) > 0 || len(impl.EvalAll(g, nil)) > 0 || len(impl.Eval(g, nil)) > 0 {
		t.Fatalf("a value comes of %+v", g)
	}
}

func TestGraphLimits(t *testing.T) {
	if impl.MaxNodes != 200 || impl.MaxOuts != 40 {
		t.Error("the limits of chapter 6")
	}
	ops := ints(impl.OpInput, impl.OpConst, impl.OpAdd, impl.OpSub, impl.OpMul, impl.OpNeg, impl.OpInv, impl.OpStep, impl.OpRelu, impl.OpTop, impl.OpContract, impl.OpSpread, impl.OpReshape, impl.OpSlice, impl.OpPad, impl.OpGather, impl.OpScatter, impl.OpWindow, impl.OpFold)
	for i, op := range ops {
		if op != i+1 {
			t.Errorf("Op %d is %d", i+1, op)
		}
	}
}

func TestGraphOkOfEachOp(t *testing.T) {
	shapes := [][]int{
		{2, 2}, {2}, {2, 3}, {3, 2}, {}, {2, 3}, {3, 2}, {6}, {}, {2, 3}, {2, 2}, {4, 2, 3}, {6}, {3}, {2, 8}, {2, 2}, {2, 4}, {3, 3}, {7},
	}
	for i, n := range rightNodes() {
		g := behindGround(n)
		if n.Op != i+1 || !checkGraphOk(t, g) || !slices.Equal(impl.Shapes(g)[len(g.Nodes)-1], shapes[i]) {
			t.Fatalf("Shapes(%+v) = %v", g, impl.Shapes(g))
		}
	}
}

func TestGraphOkOfOpsThatAreNone(t *testing.T) {
	for _, right := range rightNodes() {
		for _, op := range ints(0, 20, -1, 21, 1<<32+1, math.MinInt, math.MaxInt, math.MinInt+right.Op) {
			n := copiedNode(right)
			n.Op = op
			checkNothing(t, behindGround(n))
		}
		for op := range 22 {
			n := copiedNode(right)
			n.Op = op
			checkGraphOk(t, behindGround(n))
		}
	}
	for _, op := range ints(0, 20, math.MinInt, math.MaxInt) {
		checkNothing(t, graphOf(nil, impl.Node{Op: op}))
	}
}

func TestGraphOkOfArgs(t *testing.T) {
	own := len(groundNodes())
	for _, right := range rightNodes() {
		refused := []impl.Node{}
		spoil := func(change func(n *impl.Node)) {
			n := copiedNode(right)
			change(&n)
			refused = append(refused, n)
		}
		for at := range right.Args {
			for _, arg := range ints(-1, own, own+1, math.MinInt, math.MaxInt) {
				spoil(func(n *impl.Node) { n.Args[at] = arg })
			}
		}
		if len(right.Args) > 0 {
			spoil(func(n *impl.Node) { n.Args = n.Args[1:] })
			spoil(func(n *impl.Node) { n.Args = nil })
		}
		for _, arg := range ints(0, 2, -1, own, math.MinInt, math.MaxInt) {
			spoil(func(n *impl.Node) { n.Args = append(n.Args, arg) })
		}
		for _, n := range refused {
			checkNothing(t, behindGround(n))
		}
	}
	// What stands behind may not be used, though it be right itself.
	checkNothing(t, graphOf(ints(0), argsNode(impl.OpNeg, 1), inputNode(2)))
	checkNothing(t, graphOf(ints(0), argsNode(impl.OpNeg, 0)))
}

func TestGraphOkOfWhatIsNotUsed(t *testing.T) {
	for _, right := range rightNodes() {
		if !usesDims(right.Op) {
			n := copiedNode(right)
			n.Dims = ints(1)
			checkNothing(t, behindGround(n))
			n.Dims = slices.Clone(impl.Shapes(behindGround(right))[len(groundNodes())])
			checkGraphOk(t, behindGround(n))
		}
		if !usesInts(right.Op) {
			n := copiedNode(right)
			n.Ints = ints(0)
			checkNothing(t, behindGround(n))
		}
		if right.Op != impl.OpContract {
			for _, form := range []string{"->", " ", "ab->ab"} {
				n := copiedNode(right)
				n.Form = form
				checkNothing(t, behindGround(n))
			}
		}
		if right.Op != impl.OpConst {
			n := copiedNode(right)
			n.Data = ints(0)
			checkNothing(t, behindGround(n))
		}
		n := copiedNode(right)
		n.Dims, n.Ints, n.Data = spare(n.Dims), spare(n.Ints), spare(n.Data)
		if !checkGraphOk(t, behindGround(n)) {
			t.Error("room behind a list was read")
		}
	}
}

// A nodeCase has what a node behind the groundNodes has for its shape; nil when
// the graph is not GraphOk.
type nodeCase struct {
	node  impl.Node
	shape []int
}

func checkNodeCases(t *testing.T, cases []nodeCase) {
	t.Helper()
	for i, c := range cases {
		g := behindGround(c.node)
		ok := checkGraphOk(t, g)
		if ok != (c.shape != nil) || ok && !slices.Equal(impl.Shapes(g)[len(g.Nodes)-1], c.shape) {
			t.Errorf("row %d: Shapes behind %+v: %v, not %v", i, c.node, impl.Shapes(g), c.shape)
		}
	}
}

func noughts(count int) []int { return make([]int, count) }

func TestGraphOkOfInputsAndConsts(t *testing.T) {
	checkNodeCases(t, []nodeCase{
		{inputNode(), []int{}}, {inputNode(1), ints(1)}, {inputNode(4096), ints(4096)}, {inputNode(4097), nil}, {inputNode(64, 65), nil},
		{inputNode(0), nil}, {inputNode(-1), nil}, {inputNode(2, 0), nil}, {inputNode(-2, -3), nil}, {inputNode(math.MinInt), nil}, {inputNode(math.MaxInt), nil},
		{inputNode(1<<32, 1<<32), nil}, {inputNode(1, 1, 1, 1, 1, 1), ints(1, 1, 1, 1, 1, 1)}, {inputNode(1, 1, 1, 1, 1, 1, 1), nil},
		{constNode(nil, 7), []int{}}, {constNode(nil), nil}, {constNode(nil, 1, 2), nil}, {constNode(ints(2), 1), nil}, {constNode(ints(2), 1, 2, 3), nil},
		{constNode(ints(2)), nil}, {constNode(ints(2), 0, -1), nil}, {constNode(ints(2), -1, 0), nil}, {constNode(ints(2), 0, impl.Prime-1), ints(2)},
		{constNode(ints(2), impl.Prime-1, 0), ints(2)}, {constNode(ints(2), 0, impl.Prime), nil}, {constNode(ints(2), impl.Prime, 0), nil},
		{constNode(nil, -1), nil}, {constNode(nil, impl.Prime-1), []int{}}, {constNode(nil, impl.Prime), nil}, {constNode(nil, math.MinInt), nil},
		{constNode(nil, math.MaxInt), nil}, {constNode(ints(0)), nil}, {constNode(ints(-1), 1), nil}, {constNode(ints(4096), noughts(4096)...), ints(4096)},
		{constNode(ints(4097), noughts(4097)...), nil}, {constNode(ints(1, 1, 1, 1, 1, 1, 1), 1), nil}, {constNode(ints(2, 3), noughts(6)...), ints(2, 3)},
	})
}

func TestGraphOkOfPairs(t *testing.T) {
	for _, op := range ints(impl.OpAdd, impl.OpSub, impl.OpMul) {
		checkNodeCases(t, []nodeCase{
			{argsNode(op, 0, 0), ints(2, 3)}, {argsNode(op, 2, 2), []int{}}, {argsNode(op, 7, 7), ints(4096)}, {argsNode(op, 6, 6), ints(1, 1, 1, 1, 1, 1)},
			// These could be joined, but are not of one shape.
			{argsNode(op, 0, 3), nil}, {argsNode(op, 3, 0), nil}, {argsNode(op, 0, 2), nil}, {argsNode(op, 2, 0), nil}, {argsNode(op, 2, 6), nil}, {argsNode(op, 6, 2), nil},
			// Of one product, of one rank.
			{argsNode(op, 0, 1), nil}, {argsNode(op, 0, 4), nil}, {argsNode(op, 5, 9), nil}, {argsNode(op), nil}, {argsNode(op, 0), nil}, {argsNode(op, 0, 0, 0), nil},
		})
	}
}

func TestGraphOkOfContracts(t *testing.T) {
	checkNodeCases(t, []nodeCase{
		{formNode("ab->ba", 0), ints(3, 2)}, {formNode("ab->", 0), []int{}}, {formNode("->", 2), []int{}}, {formNode(",->", 2, 2), []int{}}, {formNode("aa->a", 8), ints(3)},
		{formNode("->"), nil}, {formNode(""), nil}, {formNode("", 2), nil}, {formNode("a", 4), nil}, {formNode("a->b", 4), nil}, {formNode("a->aa", 4), nil},
		{formNode("a,b->ab", 4, 5), ints(6, 7)}, {formNode("a,b,c,d,e,f->abcdef", 2, 2, 2, 2, 2, 2), nil}, {formNode(",,,,,->", 2, 2, 2, 2, 2, 2), []int{}},
		{formNode(",,,,,,->", 2, 2, 2, 2, 2, 2, 2), nil}, {formNode(",,,,,->", 2, 2, 2, 2, 2, 2, 2), nil}, {formNode(",,,,,->", 2, 2, 2, 2, 2), nil},
		{formNode("ab,ab->", 0, 1), nil}, {formNode("ab,ba->", 0, 1), []int{}}, {formNode("aa->", 0), nil}, {formNode("ab,bc->ac", 0, 8), ints(2, 3)}, {formNode("ab,bc->ac", 1, 8), nil},
		{formNode("a->a", 0), nil}, {formNode("abc->a", 0), nil}, {formNode("ab ->ba", 0), nil}, {formNode("AB->BA", 0), nil}, {formNode("ab->ba ", 0), nil}, {formNode("ab->ba\n", 0), nil},
		{formNode("a,b->", 9, 9), []int{}}, {formNode("a,b->", 9, 10), nil}, {formNode("a,b->a", 9, 9), ints(256)}, {formNode("a,b->ab", 9, 9), nil}, {formNode("a,a->a", 7, 7), ints(4096)},
		{formNode("abcdef->fedcba", 6), ints(1, 1, 1, 1, 1, 1)}, {formNode("abcdef,g->gabcde", 6, 5), ints(7, 1, 1, 1, 1, 1)}, {formNode("abcdef,g->gabcdef", 6, 5), nil},
		{formNode("a,a->a", 7, 5), nil}, {formNode("a,b,c->", 7, 7, 7), nil}, {formNode("a,b,c,d,e,f->", 7, 7, 7, 7, 7, 7), nil}, {formNode("a,b->", 7, 5), []int{}},
	})
}

func TestGraphOkOfSpreadsAndReshapes(t *testing.T) {
	spread := func(arg int, dims ...int) impl.Node { return dimsNode(impl.OpSpread, arg, dims...) }
	reshape := func(arg int, dims ...int) impl.Node { return dimsNode(impl.OpReshape, arg, dims...) }
	checkNodeCases(t, []nodeCase{
		{spread(2), []int{}}, {spread(2, 5), ints(5)}, {spread(2, 4096), ints(4096)}, {spread(2, 4097), nil}, {spread(2, 1, 1, 1, 1, 1, 1), ints(1, 1, 1, 1, 1, 1)},
		{spread(2, 1, 1, 1, 1, 1, 1, 1), nil}, {spread(3, 3), nil}, {spread(3, 2, 3), ints(2, 3)}, {spread(3, 1, 3), ints(1, 3)}, {spread(3, 5, 1, 3), ints(5, 1, 3)},
		{spread(3, 1, 1), nil}, {spread(3, 3, 1), nil}, {spread(0, 2, 3), ints(2, 3)}, {spread(0, 4, 3), nil}, {spread(0, 2, 3, 1), nil}, {spread(0), nil}, {spread(3, 0, 3), nil},
		{spread(3, -1, 3), nil}, {spread(2, math.MaxInt), nil}, {spread(2, math.MinInt), nil}, {spread(7, 1, 4096), ints(1, 4096)}, {spread(7, 2, 4096), nil}, {spread(0, 3, 2), nil},
		{reshape(0, 6), ints(6)}, {reshape(0, 3, 2), ints(3, 2)}, {reshape(0, 1, 6, 1), ints(1, 6, 1)}, {reshape(0, 5), nil}, {reshape(0, 7), nil}, {reshape(0), nil},
		{reshape(2), []int{}}, {reshape(2, 1), ints(1)}, {reshape(2, 2), nil}, {reshape(6), []int{}}, {reshape(0, -2, -3), nil}, {reshape(0, -1, -6), nil}, {reshape(0, 0), nil},
		{reshape(0, 6, 0), nil}, {reshape(7, 64, 64), ints(64, 64)}, {reshape(7, 4, 4, 4, 4, 4, 4), ints(4, 4, 4, 4, 4, 4)}, {reshape(7, 4, 4, 4, 4, 4, 4, 1), nil},
		{reshape(0, math.MinInt), nil}, {reshape(0, math.MaxInt), nil}, {reshape(0, 6, 1, 1, 1, 1, 1), ints(6, 1, 1, 1, 1, 1)}, {reshape(0, 6, 1, 1, 1, 1, 1, 1), nil},
		{reshape(2, 1<<32, 1<<32, 1), nil},
	})
}

func TestGraphOkOfSlicesAndPads(t *testing.T) {
	slice := func(arg int, list ...int) impl.Node { return intsNode(impl.OpSlice, arg, list...) }
	pad := func(arg int, list ...int) impl.Node { return intsNode(impl.OpPad, arg, list...) }
	checkNodeCases(t, []nodeCase{
		{slice(5, 0, 0, 7, 1), ints(7)}, {slice(5, 0, 0, 4, 2), ints(4)}, {slice(5, 0, 1, 4, 2), nil}, {slice(5, 0, 6, 1, 1), ints(1)}, {slice(5, 0, 7, 1, 1), nil},
		{slice(5, 0, -1, 1, 1), nil}, {slice(5, 0, 0, 0, 1), nil}, {slice(5, 0, 0, -1, 1), nil}, {slice(5, 0, 6, 2, -1), nil}, {slice(5, 0, 6, 1, -1), nil}, {slice(5, 0, 0, 2, 0), nil},
		{slice(5, 0, 0, 1, 0), nil}, {slice(5, 0, 0, 1, math.MinInt), nil}, {slice(5, 0, 0, 1, math.MaxInt), nil}, {slice(5, 0, 0, 1, 4096), ints(1)}, {slice(5, 0, 0, 1, 4097), nil},
		{slice(5, 0, 0, 2, 4096), nil}, {slice(5, 0, 0, math.MaxInt, 1), nil}, {slice(5, 0, math.MinInt, 1, 1), nil}, {slice(5, 0, math.MaxInt, 1, 1), nil}, {slice(5, 0, 0, math.MinInt, 1), nil},
		{slice(5, 1, 0, 1, 1), nil}, {slice(5, -1, 0, 1, 1), nil}, {slice(5, math.MaxInt, 0, 1, 1), nil}, {slice(5, math.MinInt, 0, 1, 1), nil}, {slice(2, 0, 0, 1, 1), nil},
		{slice(5), nil}, {slice(5, 0), nil}, {slice(5, 0, 0, 1), nil}, {slice(5, 0, 0, 1, 1, 1), nil}, {slice(0, 1, 1, 2, 1), ints(2, 2)}, {slice(7, 0, 0, 4096, 1), ints(4096)},
		{pad(5, 0, 0, 0, 0), ints(7)}, {pad(5, 0, 1, 2, 3), ints(28)}, {pad(2, 0, 0, 0, 0), nil}, {pad(5, 1, 0, 0, 0), nil}, {pad(5, -1, 0, 0, 0), nil}, {pad(5, 0, -1, 0, 0), nil},
		{pad(5, 0, 0, -1, 0), nil}, {pad(5, 0, 0, 0, -1), nil}, {pad(5, 0, 4089, 0, 0), ints(4096)}, {pad(5, 0, 4090, 0, 0), nil}, {pad(5, 0, 0, 4089, 0), ints(4096)}, {pad(5, 0, 0, 4090, 0), nil},
		{pad(5, 0, 0, 0, 681), ints(4093)}, {pad(5, 0, 0, 0, 682), nil}, {pad(6, 0, 4095, 0, 4096), ints(4096, 1, 1, 1, 1, 1)}, {pad(6, 5, 0, 0, 4097), nil}, {pad(6, 5, 0, 0, 4096), ints(1, 1, 1, 1, 1, 1)},
		{pad(6, 6, 0, 0, 0), nil}, {pad(5, 0, 0, 0, math.MaxInt), nil}, {pad(5, 0, math.MinInt, 0, 0), nil}, {pad(5, 0, math.MaxInt, math.MaxInt, 0), nil}, {pad(6, 0, 4096, 0, 0), nil},
		{pad(5), nil}, {pad(5, 0, 0, 0), nil}, {pad(5, 0, 0, 0, 0, 0), nil}, {pad(7, 0, 0, 0, 0), ints(4096)}, {pad(7, 0, 0, 0, 4096), nil}, {pad(7, 0, 1, 0, 0), nil}, {pad(0, 0, 0, 1, 1), ints(4, 3)},
	})
}

func TestGraphOkOfGathersAndScatters(t *testing.T) {
	gather := func(arg int, list ...int) impl.Node { return intsNode(impl.OpGather, arg, list...) }
	scatter := func(arg int, list ...int) impl.Node { return intsNode(impl.OpScatter, arg, list...) }
	long := func(list []int, count int) []int { return append(list, noughts(count)...) }
	checkNodeCases(t, []nodeCase{
		{gather(0), nil}, {gather(0, 0), nil}, {gather(0, 1), nil}, {gather(0, 1, 0), ints(2, 1)}, {gather(0, 1, 2, 2, 2, 0), ints(2, 4)}, {gather(0, 1, 3), nil}, {gather(0, 1, -1), nil},
		{gather(0, 1, 0, 3), nil}, {gather(0, 1, 3, 0), nil}, {gather(0, 0, 1), ints(1, 3)}, {gather(0, 0, 2), nil}, {gather(0, 2, 0), nil}, {gather(0, -1, 0), nil}, {gather(2, 0, 0), nil}, {gather(2, 0), nil},
		{gather(0, 1, math.MinInt), nil}, {gather(0, 1, math.MaxInt), nil}, {gather(0, math.MinInt, 0), nil}, {gather(0, math.MaxInt, 0), nil},
		{gather(5, long(ints(0), 4096)...), ints(4096)}, {gather(5, long(ints(0), 4097)...), nil}, {gather(0, long(ints(0), 1365)...), ints(1365, 3)}, {gather(0, long(ints(0), 1366)...), nil},
		{scatter(0), nil}, {scatter(0, 1), nil}, {scatter(0, 1, 3), nil}, {scatter(0, 1, 3, 0, 1), nil}, {scatter(0, 1, 3, 0, 1, 2), ints(2, 3)}, {scatter(0, 1, 3, 0, 1, 2, 0), nil},
		{scatter(0, 1, 3, 0, 1, 3), nil}, {scatter(0, 1, 3, -1, 1, 2), nil}, {scatter(0, 1, 1, 0, 0, 0), ints(2, 1)}, {scatter(0, 1, 0, 0, 0, 0), nil}, {scatter(0, 1, -1, 0, 0, 0), nil},
		{scatter(0, 1, 2048, 0, 2047, 0), ints(2, 2048)}, {scatter(0, 1, 2049, 0, 0, 0), nil}, {scatter(0, 0, 5, 4, 4), ints(5, 3)}, {scatter(0, 2, 5, 4, 4), nil}, {scatter(0, -1, 5, 4, 4), nil},
		{scatter(0, 1, math.MaxInt, 0, 0, 0), nil}, {scatter(0, 1, math.MinInt, 0, 0, 0), nil}, {scatter(2, 0, 1), nil}, {scatter(2, 0, 1, 0), nil}, {scatter(0, 1, 3, 0, 1, math.MaxInt), nil},
		{scatter(0, math.MinInt, 5, 4, 4), nil}, {scatter(7, long(ints(0, 1), 4096)...), ints(1)}, {scatter(7, long(ints(0, 1), 4095)...), nil}, {scatter(7, long(ints(0, 1), 4097)...), nil},
	})
}

func TestGraphOkOfTopsWindowsAndFolds(t *testing.T) {
	top := func(arg int, list ...int) impl.Node { return intsNode(impl.OpTop, arg, list...) }
	window := func(arg int, list ...int) impl.Node { return intsNode(impl.OpWindow, arg, list...) }
	fold := func(arg int, list ...int) impl.Node { return intsNode(impl.OpFold, arg, list...) }
	checkNodeCases(t, []nodeCase{
		{top(0, 0), ints(2, 3)}, {top(0, 1), ints(2, 3)}, {top(0, 2), nil}, {top(0, -1), nil}, {top(0), nil}, {top(0, 0, 0), nil}, {top(2, 0), nil}, {top(2), nil}, {top(0, math.MinInt), nil}, {top(0, math.MaxInt), nil},
		{window(5, 0, 3, 2), ints(3, 3)}, {window(5, 0, 7, 1), ints(1, 7)}, {window(5, 0, 8, 1), nil}, {window(5, 0, 0, 1), nil}, {window(5, 0, 1, 0), nil}, {window(5, 0, 1, -1), nil}, {window(5, 0, -1, 1), nil},
		{window(5, 0, 1, 1), ints(7, 1)}, {window(5, 0, 3, math.MaxInt), ints(1, 3)}, {window(5, 0, 3, math.MinInt), nil}, {window(5, 0, math.MaxInt, 1), nil}, {window(5, 0, math.MinInt, 1), nil},
		{window(5, 1, 1, 1), nil}, {window(5, -1, 1, 1), nil}, {window(6, 0, 1, 1), nil}, {window(2, 0, 1, 1), nil}, {window(5), nil}, {window(5, 0, 3), nil}, {window(5, 0, 3, 2, 1), nil}, {window(0, 0, 2, 1), ints(1, 3, 2)},
		{window(7, 0, 1, 1), ints(4096, 1)}, {window(7, 0, 2, 1), nil}, {window(7, 0, 2, 2), ints(2048, 2)}, {window(0, 1, 2, 1), ints(2, 2, 2)}, {window(5, math.MaxInt, 1, 1), nil}, {window(5, math.MinInt, 1, 1), nil},
		{fold(8, 0, 2, 7), ints(7)}, {fold(8, 0, 2, 8), ints(8)}, {fold(8, 0, 2, 6), nil}, {fold(8, 0, 2, 9), nil}, {fold(8, 0, 1, 5), ints(5)}, {fold(8, 0, 0, 5), nil}, {fold(8, 0, -1, 5), nil}, {fold(8, 1, 2, 7), nil},
		{fold(8, 2, 2, 7), nil}, {fold(8, -1, 2, 7), nil}, {fold(8), nil}, {fold(8, 0, 2), nil}, {fold(8, 0, 2, 7, 0), nil}, {fold(5, 0, 1, 7), nil}, {fold(2, 0, 1, 1), nil}, {fold(3, 0, 1, 3), ints(3)}, {fold(3, 0, 9, 3), ints(3)},
		{fold(3, 0, math.MaxInt, 4096), ints(4096)}, {fold(3, 0, math.MaxInt, 4097), nil}, {fold(3, 0, 1, 2), nil}, {fold(3, 0, 1, 0), nil}, {fold(3, 0, 1, -3), nil}, {fold(3, 0, math.MinInt, 3), nil}, {fold(3, 0, 1, math.MaxInt), nil},
		{fold(3, 0, 1, math.MinInt), nil}, {fold(6, 0, 1, 1), ints(1, 1, 1, 1, 1)}, {fold(6, 4, 1, 1), ints(1, 1, 1, 1, 1)}, {fold(6, 5, 1, 1), nil}, {fold(8, math.MaxInt, 2, 7), nil}, {fold(8, math.MinInt, 2, 7), nil},
	})
}

// Each int of each right node is replaced by many others.
func TestGraphOkOfChangedNumbers(t *testing.T) {
	others := viewInts()
	for _, right := range rightNodes() {
		for at := range right.Dims {
			for _, x := range others {
				n := copiedNode(right)
				n.Dims[at] = x
				checkGraphOk(t, behindGround(n))
			}
		}
		for at := range right.Ints {
			for _, x := range others {
				n := copiedNode(right)
				n.Ints[at] = x
				checkGraphOk(t, behindGround(n))
			}
		}
	}
}

func manyNodes(count int) []impl.Node {
	nodes := []impl.Node{inputNode(2)}
	for len(nodes) < count {
		nodes = append(nodes, argsNode(impl.OpNeg, len(nodes)-1))
	}
	return nodes
}

func TestGraphOkOfOuts(t *testing.T) {
	empty := []impl.Graph{{}, graphOf(ints()), {Nodes: []impl.Node{}}}
	for _, g := range empty {
		if !checkGraphOk(t, g) || len(impl.Eval(g, nil)) != 0 || len(impl.EvalAll(g, nil)) != 0 || impl.Cost(g) != 0 {
			t.Error("a graph without nodes")
		}
	}
	two := []impl.Node{inputNode(2), argsNode(impl.OpNeg, 0)}
	good := []impl.Graph{graphOf(nil, two...), graphOf(ints(1), two...), graphOf(ints(1, 0, 1, 1), two...), graphOf(noughts(40), two...), graphOf(ints(199), manyNodes(200)...), graphOf(nil, manyNodes(200)...)}
	for i, g := range good {
		if !checkGraphOk(t, g) {
			t.Errorf("good graph %d is refused", i)
		}
	}
	wrong := []impl.Graph{
		graphOf(ints(-1), two...), graphOf(ints(2), two...), graphOf(ints(0, 2), two...), graphOf(ints(2, 0), two...), graphOf(ints(math.MinInt), two...), graphOf(ints(math.MaxInt), two...),
		graphOf(noughts(41), two...), graphOf(ints(0), manyNodes(201)...), graphOf(nil, manyNodes(201)...), graphOf(ints(0)), graphOf(ints(-1)), graphOf(ints(0, -1), two...),
	}
	for _, g := range wrong {
		checkNothing(t, g)
	}
}

// randomNode is a node that may stand behind nodes with these values; it is not
// always right.
func randomNode(source *rand.Rand, values []impl.Tensor) impl.Node {
	if len(values) == 0 || source.Intn(8) == 0 {
		dims := randomDims(source, source.Intn(4), 3)
		if source.Intn(2) == 0 {
			return inputNode(dims...)
		}
		return constNode(dims, randomTensor(source, dims).Data...)
	}
	arg := source.Intn(len(values))
	dims := values[arg].Dims
	switch op := 3 + source.Intn(17); op {
	case impl.OpAdd, impl.OpSub, impl.OpMul:
		other := source.Intn(len(values))
		for number, value := range values {
			if slices.Equal(value.Dims, dims) && source.Intn(2) == 0 {
				other = number
			}
		}
		return argsNode(op, arg, other)
	case impl.OpNeg, impl.OpInv, impl.OpStep, impl.OpRelu:
		return argsNode(op, arg)
	case impl.OpContract:
		return randomContract(source, values)
	case impl.OpSpread:
		wanted := append(randomDims(source, source.Intn(2), 3), dims...)
		for axis, length := range wanted {
			if length == 1 {
				wanted[axis] = 1 + source.Intn(3)
			}
		}
		return dimsNode(op, arg, wanted...)
	case impl.OpReshape:
		all := dimsOf(len(values[arg].Data))
		return dimsNode(op, arg, all[source.Intn(len(all))]...)
	default:
		return intsNode(op, arg, randomInts(source, op, dims)...)
	}
}

func randomContract(source *rand.Rand, values []impl.Tensor) impl.Node {
	letters, groups, used, args := "ikjlmzab", []string{}, "", []int{}
	byLength := map[int]string{}
	for range 1 + source.Intn(3) {
		arg := source.Intn(len(values))
		group := ""
		for _, length := range values[arg].Dims {
			known := byLength[length]
			if known == "" || source.Intn(3) > 0 && letters != "" {
				if letters == "" {
					return formNode("", arg)
				}
				known += letters[:1]
				byLength[length] = known
				letters = letters[1:]
			}
			letter := known[source.Intn(len(known))]
			group += string(letter)
			if !strings.Contains(used, string(letter)) {
				used += string(letter)
			}
		}
		groups, args = append(groups, group), append(args, arg)
	}
	outcome := ""
	for _, i := range source.Perm(len(used)) {
		if source.Intn(2) == 0 {
			outcome += used[i : i+1]
		}
	}
	return formNode(strings.Join(groups, ",")+"->"+outcome, args...)
}

func randomInts(source *rand.Rand, op int, dims []int) []int {
	if len(dims) == 0 {
		return ints(0)
	}
	axis := source.Intn(len(dims))
	length := dims[axis]
	switch op {
	case impl.OpTop:
		return ints(axis)
	case impl.OpSlice:
		return ints(axis, source.Intn(length), 1+source.Intn(length), 1+source.Intn(2))
	case impl.OpPad:
		return ints(axis, source.Intn(2), source.Intn(2), source.Intn(2))
	case impl.OpGather:
		return append(ints(axis), randomIndex(source, 1+source.Intn(3), length)...)
	case impl.OpScatter:
		n := 1 + source.Intn(3)
		return append(ints(axis, n), randomIndex(source, length, n)...)
	case impl.OpWindow:
		return ints(axis, 1+source.Intn(length), 1+source.Intn(2))
	}
	axis, step := axis/2, 1+source.Intn(2)
	return ints(axis, step, (dims[axis]-1)*step+dims[len(dims)-1]+source.Intn(step))
}

// randomGraph is a graph that is GraphOk, of at most this many nodes, which are
// small.
func randomGraph(source *rand.Rand, most int) impl.Graph {
	g := impl.Graph{}
	values := []impl.Tensor{}
	for range most {
		n := randomNode(source, values)
		args := []impl.Tensor{}
		for _, arg := range n.Args {
			args = append(args, values[arg])
		}
		if value := wantNode(n, args); wantTensorOk(value) && len(value.Data) <= 60 {
			g.Nodes, values = append(g.Nodes, n), append(values, value)
		}
	}
	for range source.Intn(4) {
		g.Outs = append(g.Outs, source.Intn(len(g.Nodes)))
	}
	return g
}

func someGraphs(count int, seed int64) []impl.Graph {
	source := rand.New(rand.NewSource(seed))
	graphs := []impl.Graph{}
	for range count {
		graphs = append(graphs, randomGraph(source, 1+source.Intn(14)))
	}
	return graphs
}

// edgeGraphs are graphs that are GraphOk, among them one of each Op.
func edgeGraphs() []impl.Graph {
	graphs := []impl.Graph{{}, graphOf(nil, inputNode()), graphOf(ints(0, 0), constNode(nil, 1)), graphOf(ints(199), manyNodes(200)...), graphOf(noughts(40), inputNode(2))}
	for _, n := range rightNodes() {
		graphs = append(graphs, behindGround(n))
	}
	return graphs
}

func goodGraphs() []impl.Graph { return append(edgeGraphs(), someGraphs(150, 61)...) }

func inputsFor(source *rand.Rand, g impl.Graph) []impl.Tensor {
	inputs := []impl.Tensor{}
	for _, number := range wantInputs(g) {
		inputs = append(inputs, randomTensor(source, g.Nodes[number].Dims))
	}
	return inputs
}

func TestRandomGraphsHaveAllOps(t *testing.T) {
	counts := make([]int, 20)
	for _, g := range someGraphs(150, 61) {
		for _, n := range g.Nodes {
			counts[n.Op]++
		}
	}
	for op, count := range counts[1:] {
		if count < 10 {
			t.Errorf("Op %d comes %d times", op+1, count)
		}
	}
}

func TestGraphOkOfRandomGraphs(t *testing.T) {
	for _, g := range goodGraphs() {
		if !checkGraphOk(t, g) {
			t.Fatalf("%+v is refused", g)
		}
	}
}

// spoiltGraph is a graph of which one list or number has changed.
func spoiltGraph(source *rand.Rand, g impl.Graph) impl.Graph {
	g = copiedGraph(g)
	others := append(viewInts(), len(g.Nodes), impl.Prime)
	x := others[source.Intn(len(others))]
	n := &g.Nodes[source.Intn(len(g.Nodes))]
	lists := []*[]int{&n.Args, &n.Dims, &n.Ints, &n.Data, &g.Outs}
	list := lists[source.Intn(len(lists))]
	switch kind := source.Intn(6); {
	case kind == 0:
		n.Op = source.Intn(21)
	case kind == 1:
		*list = append(*list, x)
	case kind == 2 && len(*list) > 0:
		*list = (*list)[1:]
	case kind >= 3 && len(*list) > 0:
		(*list)[source.Intn(len(*list))] = x
	default:
		n.Form += []string{"a", "->", ",", "b"}[source.Intn(4)]
	}
	return g
}

func TestGraphOkOfSpoiltGraphs(t *testing.T) {
	source := rand.New(rand.NewSource(62))
	good, wrong := 0, 0
	for _, g := range someGraphs(400, 63) {
		for range 10 {
			if checkGraphOk(t, spoiltGraph(source, g)) {
				good++
			} else {
				wrong++
			}
		}
	}
	if good < 200 || wrong < 1000 {
		t.Errorf("%d are right, %d are not", good, wrong)
	}
}

func TestEvalAllAgainstWords(t *testing.T) {
	source := rand.New(rand.NewSource(64))
	for _, g := range goodGraphs() {
		for range 3 {
			inputs := inputsFor(source, g)
			want, _ := wantAll(g, inputs)
			if got := impl.EvalAll(g, inputs); !sameTensors(got, want) {
				t.Fatalf("EvalAll(%s) = %v, not %v", wantText(g), got, want)
			}
		}
	}
}

func TestEvalAllRows(t *testing.T) {
	g := graphOf(ints(1, 3), inputNode(3), argsNode(impl.OpRelu, 0), inputNode(), formNode("a,->a", 1, 2))
	got := impl.EvalAll(g, tensors(tensorOf(ints(3), impl.Prime-1, 0, 4), tensorOf(nil, impl.Over(1, 3))))
	want := tensors(tensorOf(ints(3), impl.Prime-1, 0, 4), tensorOf(ints(3), 0, 0, 4), tensorOf(nil, 1431655765), tensorOf(ints(3), 0, 0, impl.Over(4, 3)))
	if !sameTensors(got, want) {
		t.Errorf("EvalAll = %v", got)
	}
	cases := []struct {
		node impl.Node
		want impl.Tensor
	}{
		{argsNode(impl.OpAdd, 0, 1), tensorOf(ints(2), 8, 4)}, {argsNode(impl.OpSub, 0, 1), tensorOf(ints(2), impl.Prime-2, 0)}, {argsNode(impl.OpMul, 0, 1), tensorOf(ints(2), 15, 4)},
		{argsNode(impl.OpNeg, 0), tensorOf(ints(2), impl.Prime-3, impl.Prime-2)}, {argsNode(impl.OpInv, 1), tensorOf(ints(2), impl.Over(1, 5), impl.Over(1, 2))}, {argsNode(impl.OpStep, 0), tensorOf(ints(2), 1, 1)},
		{intsNode(impl.OpTop, 0, 0), tensorOf(ints(2), 1, 0)}, {formNode("a,b->ba", 0, 1), tensorOf(ints(2, 2), 15, 10, 6, 4)}, {dimsNode(impl.OpSpread, 0, 2, 2), tensorOf(ints(2, 2), 3, 2, 3, 2)},
		{dimsNode(impl.OpReshape, 0, 2, 1), tensorOf(ints(2, 1), 3, 2)}, {intsNode(impl.OpSlice, 0, 0, 1, 1, 1), tensorOf(ints(1), 2)}, {intsNode(impl.OpPad, 0, 0, 1, 2, 1), tensorOf(ints(6), 0, 3, 0, 2, 0, 0)},
		{intsNode(impl.OpGather, 0, 0, 1, 0, 1), tensorOf(ints(3), 2, 3, 2)}, {intsNode(impl.OpScatter, 0, 0, 3, 2, 2), tensorOf(ints(3), 0, 0, 5)}, {intsNode(impl.OpWindow, 0, 0, 1, 1), tensorOf(ints(2, 1), 3, 2)},
	}
	for _, c := range cases {
		g := graphOf(ints(2), inputNode(2), inputNode(2), c.node)
		got := impl.Eval(g, tensors(tensorOf(ints(2), 3, 2), tensorOf(ints(2), 5, 2)))
		if !sameTensors(got, tensors(c.want)) {
			t.Errorf("Eval of %+v = %v, not %v", c.node, got, c.want)
		}
	}
	folded := impl.Eval(graphOf(ints(1), inputNode(2, 2), intsNode(impl.OpFold, 0, 0, 1, 3)), tensors(tensorOf(ints(2, 2), 1, 10, 100, 1000)))
	if !sameTensors(folded, tensors(tensorOf(ints(3), 1, 110, 1000))) {
		t.Errorf("OpFold gives %v", folded)
	}
}

// Each wants its inputs one by one, those too that nothing uses.
func TestEvalOfWrongInputs(t *testing.T) {
	six := tensorOf(ints(2, 3), 1, 2, 3, 4, 5, 6)
	three := tensorOf(ints(3), 7, 8, 9)
	nodes := []impl.Node{inputNode(2, 3), argsNode(impl.OpNeg, 0), inputNode(3), inputNode(2, 3)}
	wrong := [][]impl.Tensor{
		nil, {}, {six}, {six, three}, {six, three, six, six}, {three, six, six}, {six, six, three}, {six, three, {}}, {{}, three, six}, {six, tensorOf(nil, 1), six},
		{tensorOf(ints(3, 2), 1, 2, 3, 4, 5, 6), three, six}, {tensorOf(ints(6), 1, 2, 3, 4, 5, 6), three, six}, {six, three, tensorOf(ints(1, 2, 3), 1, 2, 3, 4, 5, 6)},
		{six, tensorOf(ints(3), 7, 8), six}, {six, tensorOf(ints(3), 7, 8, 9, 10), six}, {six, tensorOf(ints(3), 7, -1, 9), six}, {six, three, tensorOf(ints(2, 3), 1, 2, 3, 4, 5, impl.Prime)},
		{six, tensorOf(ints(1, 3), 7, 8, 9), six}, {six, tensorOf(ints(3, 1), 7, 8, 9), six}, {tensorOf(ints(2, 3)), three, six},
	}
	for _, outs := range [][]int{{0, 1, 2, 3}, {1}, {}} {
		g := graphOf(outs, nodes...)
		if len(impl.EvalAll(g, tensors(six, three, six))) != 4 || len(impl.Eval(g, tensors(six, three, six))) != len(outs) {
			t.Errorf("right inputs are refused at Outs %v", outs)
		}
		for i, inputs := range wrong {
			if len(impl.EvalAll(g, inputs)) > 0 || len(impl.Eval(g, inputs)) > 0 {
				t.Errorf("row %d of wrong inputs gives something at Outs %v", i, outs)
			}
		}
	}
	for _, bad := range wrongTensors() {
		g := graphOf(ints(0), inputNode(bad.Dims...))
		if len(impl.EvalAll(g, tensors(bad))) > 0 || len(impl.Eval(g, tensors(bad))) > 0 {
			t.Errorf("something comes of %s", brief(bad))
		}
	}
	if len(impl.EvalAll(impl.Graph{}, tensors(six))) > 0 || len(impl.Eval(impl.Graph{}, tensors(six))) > 0 {
		t.Error("an input of a graph without nodes")
	}
	constant := graphOf(ints(0), constNode(nil, 1))
	if len(impl.Eval(constant, tensors(tensorOf(nil, 1)))) > 0 || len(impl.Eval(constant, nil)) != 1 {
		t.Error("an input of a graph without inputs")
	}
}

func TestEvalIsEvalAllAtTheOuts(t *testing.T) {
	source := rand.New(rand.NewSource(65))
	for _, g := range goodGraphs() {
		inputs := inputsFor(source, g)
		all := impl.EvalAll(g, inputs)
		for range 3 {
			want := []impl.Tensor{}
			for _, out := range g.Outs {
				want = append(want, all[out])
			}
			if got := impl.Eval(g, inputs); !sameTensors(got, want) {
				t.Fatalf("Eval(%s) = %v, not %v", wantText(g), got, want)
			}
			g.Outs = []int{}
			for range source.Intn(5) {
				if len(g.Nodes) > 0 {
					g.Outs = append(g.Outs, source.Intn(len(g.Nodes)))
				}
			}
		}
	}
}

// onlyUsed is the graph with its Used nodes alone, and the inputs that are
// left.
func onlyUsed(g impl.Graph, inputs []impl.Tensor) (impl.Graph, []impl.Tensor) {
	used, all := impl.Used(g), wantInputs(g)
	renumbered := func(numbers []int) []int {
		list := []int{}
		for _, number := range numbers {
			list = append(list, slices.Index(used, number))
		}
		return list
	}
	left, leftInputs := impl.Graph{Outs: renumbered(g.Outs)}, []impl.Tensor{}
	for _, number := range used {
		n := copiedNode(g.Nodes[number])
		n.Args = renumbered(n.Args)
		left.Nodes = append(left.Nodes, n)
		if n.Op == impl.OpInput {
			leftInputs = append(leftInputs, inputs[slices.Index(all, number)])
		}
	}
	return left, leftInputs
}

func TestEvalHangsOnUsedNodesAlone(t *testing.T) {
	source := rand.New(rand.NewSource(66))
	fewer := 0
	for _, g := range goodGraphs() {
		inputs := inputsFor(source, g)
		want := impl.Eval(g, inputs)
		left, leftInputs := onlyUsed(g, inputs)
		if !impl.GraphOk(left) || !sameTensors(impl.Eval(left, leftInputs), want) || impl.Cost(left) != impl.Cost(g) {
			t.Fatalf("Eval(%s) is not that of its Used nodes", wantText(g))
		}
		others := inputsFor(source, g)
		for i, number := range wantInputs(g) {
			if slices.Contains(impl.Used(g), number) {
				others[i] = inputs[i]
			}
		}
		changed := copiedGraph(g)
		for number, n := range changed.Nodes {
			if n.Op == impl.OpConst && !slices.Contains(impl.Used(g), number) {
				changed.Nodes[number].Data = randomTensor(source, n.Dims).Data
			}
		}
		if !sameTensors(impl.Eval(changed, others), want) {
			t.Fatalf("Eval(%s) moves with what is not used", wantText(g))
		}
		if len(left.Nodes) < len(g.Nodes) {
			fewer++
		}
		// No used node could be left out: each one is an Out, or an Arg of another.
		for number := range left.Nodes {
			asArg := slices.ContainsFunc(left.Nodes, func(n impl.Node) bool { return slices.Contains(n.Args, number) })
			if !asArg && !slices.Contains(left.Outs, number) {
				t.Fatalf("Used(%s) has too many", wantText(g))
			}
		}
	}
	if fewer < 50 {
		t.Errorf("only %d graphs have nodes that are not used", fewer)
	}
}

func TestUsedAndCostAgainstWords(t *testing.T) {
	for _, g := range goodGraphs()[5:] {
		values, _ := wantAll(g, nil)
		if got, want := impl.Used(g), wantUsed(g); !slices.Equal(got, want) {
			t.Fatalf("Used(%s) = %v, not %v", wantText(g), got, want)
		}
		if got, want := impl.Cost(g), wantCost(g, values); got != want {
			t.Fatalf("Cost(%s) = %d, not %d", wantText(g), got, want)
		}
	}
}

func TestUsedAndCostRows(t *testing.T) {
	nodes := []impl.Node{
		inputNode(2, 3), constNode(ints(3), 1, 2, 3), formNode("ij,j->i", 0, 1), argsNode(impl.OpMul, 2, 2), dimsNode(impl.OpSpread, 3, 4, 2), formNode("ab,cd->", 0, 4), inputNode(5), argsNode(impl.OpNeg, 6),
	}
	cases := []struct {
		outs, used []int
		cost       int
	}{
		{nil, nil, 0}, {ints(0), ints(0), 0}, {ints(1), ints(1), 0}, {ints(2), ints(0, 1, 2), 6}, {ints(3), ints(0, 1, 2, 3), 8}, {ints(3, 3, 2), ints(0, 1, 2, 3), 8}, {ints(4), ints(0, 1, 2, 3, 4), 16},
		{ints(5), ints(0, 1, 2, 3, 4, 5), 64}, {ints(7), ints(6, 7), 5}, {ints(7, 2), ints(0, 1, 2, 6, 7), 11}, {ints(6), ints(6), 0}, {ints(2, 7, 5, 0), ints(0, 1, 2, 3, 4, 5, 6, 7), 69},
	}
	for _, c := range cases {
		g := graphOf(c.outs, nodes...)
		if got := impl.Used(g); !slices.Equal(got, c.used) {
			t.Errorf("Used at Outs %v = %v, not %v", c.outs, got, c.used)
		}
		if got := impl.Cost(g); got != c.cost {
			t.Errorf("Cost at Outs %v = %d, not %d", c.outs, got, c.cost)
		}
	}
	// A letter that stands twice has its length once; one of length 1 changes nothing.
	trace := graphOf(ints(1), inputNode(3, 3, 1), formNode("aab->b", 0))
	if impl.Cost(trace) != 3 {
		t.Errorf("Cost of a trace is %d", impl.Cost(trace))
	}
	dear := []impl.Node{inputNode(256)}
	for len(dear) < 200 {
		dear = append(dear, formNode("a,b->", 0, 0))
	}
	outs := make([]int, 40)
	for i := range outs {
		outs[i] = 160 + i
	}
	if got := impl.Cost(graphOf(outs, dear...)); got != 40*65536 {
		t.Errorf("Cost of 40 contractions at MaxWork is %d", got)
	}
	chain := manyNodes(200)
	for number := 1; number < 200; number++ {
		chain[number] = argsNode(impl.OpMul, number-1, number-1)
	}
	long := graphOf(ints(199), chain...)
	if len(impl.Used(long)) != 200 || impl.Cost(long) != 398 {
		t.Error("a chain in which each node is used twice")
	}
}

func TestShowGraphRows(t *testing.T) {
	cases := []struct {
		g    impl.Graph
		text string
	}{
		{impl.Graph{}, "out\n"}, {graphOf(nil, inputNode()), "0 input []\nout\n"}, {graphOf(ints(0, 0), inputNode(2, 3)), "0 input [2 3]\nout 0 0\n"},
		{graphOf(ints(0), constNode(nil, impl.Over(-1, 2))), "0 const [] -1/2\nout 0\n"},
		{graphOf(ints(0), constNode(ints(2, 2), 0, impl.Prime-1, 1000000000, 1431655765)), "0 const [2 2] 0 -1 #1000000000 1/3\nout 0\n"},
		{
			graphOf(ints(18, 2), append([]impl.Node{inputNode(2, 3), inputNode(3, 3)},
				argsNode(impl.OpAdd, 0, 0), argsNode(impl.OpSub, 0, 2), argsNode(impl.OpMul, 3, 2), argsNode(impl.OpNeg, 4), argsNode(impl.OpInv, 5), argsNode(impl.OpStep, 6), argsNode(impl.OpRelu, 7),
				intsNode(impl.OpTop, 8, 1), formNode("ij,jk->", 0, 1), dimsNode(impl.OpSpread, 10), dimsNode(impl.OpReshape, 0, 6), intsNode(impl.OpSlice, 12, 0, 0, 3, 2), intsNode(impl.OpPad, 13, 0, 1, 2, 3),
				intsNode(impl.OpGather, 14, 0, 11, 0, 1), intsNode(impl.OpScatter, 15, 0, 2, 1, 1, 0), intsNode(impl.OpWindow, 12, 0, 2, 4), intsNode(impl.OpFold, 17, 0, 4, 6))...),
			"0 input [2 3]\n1 input [3 3]\n2 add 0 0\n3 sub 0 2\n4 mul 3 2\n5 neg 4\n6 inv 5\n7 step 6\n8 relu 7\n9 top 8 (1)\n10 contract 0 1 ij,jk->\n11 spread 10 []\n12 reshape 0 [6]\n" +
				"13 slice 12 (0 0 3 2)\n14 pad 13 (0 1 2 3)\n15 gather 14 (0 11 0 1)\n16 scatter 15 (0 2 1 1 0)\n17 window 12 (0 2 4)\n18 fold 17 (0 4 6)\nout 18 2\n",
		},
	}
	for _, c := range cases {
		if got := impl.ShowGraph(c.g); got != c.text {
			t.Errorf("ShowGraph = %q, not %q", got, c.text)
		}
		if got, ok := impl.ReadGraph(c.text); !ok || !sameGraph(got, c.g) {
			t.Errorf("ReadGraph(%q) = %+v, %v", c.text, got, ok)
		}
	}
}

func TestReadGraphOfShowGraph(t *testing.T) {
	for _, g := range append(goodGraphs(), someGraphs(300, 67)...) {
		text := impl.ShowGraph(g)
		if text != wantText(g) {
			t.Fatalf("ShowGraph = %q, not %q", text, wantText(g))
		}
		if got, ok := impl.ReadGraph(text); !ok || !sameGraph(got, g) {
			t.Fatalf("ReadGraph(%q) = %+v, %v", text, got, ok)
		}
	}
	most := graphOf(noughts(40), constNode(ints(4096), randomTensor(rand.New(rand.NewSource(68)), ints(4096)).Data...))
	for len(most.Nodes) < 200 {
		most.Nodes = append(most.Nodes, intsNode(impl.OpGather, 0, append(ints(0), make([]int, 30)...)...))
	}
	if got, ok := impl.ReadGraph(wantText(most)); !ok || !sameGraph(got, most) {
		t.Error("a graph at its limits")
	}
}

func TestReadGraphOfWhatIsNeverShown(t *testing.T) {
	texts := []string{
		"", "\n", " ", "out", "out ", "out\n\n", "out\n ", " out\n", "out \n", "Out\n", "outs\n", "ou\n", "out\nout\n", "out\r\n", "out\x00\n", "out 0\n", "out -1\n",
		"0 input []", "0 input []\n", "0 input []\nout", "0 input []\nout 0", "0 input []\nout 0\n\n", "0 input []\nout 0\nout\n", "0 input []\nout 0\n1 input []\n", "0 input []\nout 0\n ", "0 input []\nout 0 \n",
		"0 input []\nout  0\n", "0 input []\nout 00\n", "0 input []\nout +0\n", "0 input []\nout -0\n", "0 input []\nout 1\n", "0 input []\nout 0,0\n", "0 input []\nout 0x0\n", "0 input []\nout [0]\n", "0 input []\nout\t0\n",
		"0  input []\nout\n", " 0 input []\nout\n", "0 input  []\nout\n", "0 input [ ]\nout\n", "0 input [] \nout\n", "0 input\nout\n", "0 input [\nout\n", "0 input ]\nout\n", "0 input []]\nout\n", "0 input[]\nout\n", "0input []\nout\n",
		"0 input ()\nout\n", "0 input [] ()\nout\n", "0 input [] 1\nout\n", "0 input 0 []\nout\n", "00 input []\nout\n", "1 input []\nout\n", "-0 input []\nout\n", "+0 input []\nout\n", "0 input []\n0 input []\nout\n", "0 input []\n2 input []\nout\n",
		"1 input []\n0 input []\nout\n", "0 input []\n\nout\n", "0 input []\r\nout\n", "\n0 input []\nout\n", "0 input []\n01 input []\nout\n", "0 INPUT []\nout\n", "0 Input []\nout\n", "0 inputs []\nout\n", "0 inpu []\nout\n", "0  []\nout\n", "0 \nout\n", "0\nout\n", "0 ? []\nout\n", "0 out\n",
		"0 input [2 ]\nout\n", "0 input [ 2]\nout\n", "0 input [2  3]\nout\n", "0 input [2,3]\nout\n", "0 input [02]\nout\n", "0 input [+2]\nout\n", "0 input [-2]\nout\n", "0 input [0]\nout\n", "0 input [4097]\nout\n", "0 input [1 1 1 1 1 1 1]\nout\n",
		"0 input [9223372036854775807]\nout\n", "0 input [9223372036854775808]\nout\n", "0 input [18446744073709551618]\nout\n", "0 input [99999999999999999999999]\nout\n", "0 input [2.0]\nout\n", "0 input [1e1]\nout\n", "0 input [1_0]\nout\n", "0 input [0x2]\nout\n", "0 input [2]3]\nout\n",
		"0 const [] 01\nout\n", "0 const [] +1\nout\n", "0 const [] 2/2\nout\n", "0 const [] 2/4\nout\n", "0 const [] #1\nout\n", "0 const [] -0\nout\n", "0 const [] 1/1\nout\n", "0 const [] 2147483646\nout\n", "0 const [] 40000\nout\n", "0 const [] #2147483647\nout\n", "0 const [] 1/-2\nout\n",
		"0 const []\nout\n", "0 const [] 1 2\nout\n", "0 const [2] 1\nout\n", "0 const [] 1 \nout\n", "0 const []  1\nout\n", "0 const [] (1)\nout\n", "0 const 1\nout\n", "0 const [] x\nout\n", "0 const [] ->\nout\n", "0 const [] 1", "0 const [] ", "0 const [] \nout\n", "0 const []1\nout\n",
	}
	one := "0 input [3]\n"
	for _, line := range []string{
		"1 neg", "1 neg 1", "1 neg -1", "1 neg 0 0", "1 neg 00", "1 neg +0", "1 neg  0", "1 neg 0 ", "1 neg 0 []", "1 neg 0 ()", "1 neg 0 [3]", "1 neg 0 (0)", "1 neg 0 a->a", "1 neg 0 1", "1 neg 2", "1 neg x", "1 neg 9223372036854775808", "1neg 0", "1 neg0",
		"1 add 0", "1 add 0 0 0", "1 add 0 1", "1 add 0,0", "1 top 0", "1 top 0 ()", "1 top 0 (1)", "1 top 0 (00)", "1 top 0 (0", "1 top 0 0)", "1 top 0 (0 )", "1 top 0 ( 0)", "1 top 0 (0 0)", "1 top (0) 0", "1 top 0 [0]", "1 top 0(0)", "1 top 0 (-0)", "1 top 0 (+0)", "1 top 0 (0) ", "1 top 0  (0)",
		"1 contract 0", "1 contract a->a", "1 contract 0 ab->a", "1 contract 0  a->a", "1 contract 0 a->a ", "1 contract 0 a ->a", "1 contract 0 a-> a", "1 contract 0 A->A", "1 contract 0 a->a 1", "1 contract 0 0 a->a", "1 contract 0a->a", "1 contract 0 [a->a]", "1 contract a->a 0", "1 contract 0 ",
		"1 spread 0", "1 spread 0 [3", "1 spread 0 3]", "1 spread 0 []", "1 spread 0 (3)", "1 spread [3] 0", "1 reshape 0 [4]", "1 reshape 0 [3] [3]", "1 reshape 0 [3] 3", "1 slice 0 (0 0 1)", "1 slice 0 (0 0 1 0)", "1 slice 0 (0 0 1 -1)", "1 slice 0 (0 0 1 1 1)", "1 slice 0 (0,0,1,1)",
		"1 pad 0 (0 0 0)", "1 gather 0 (0)", "1 gather 0 (0 3)", "1 gather 0 (0 -1)", "1 scatter 0 (0 3)", "1 scatter 0 (0 3 0 0)", "1 window 0 (0 4 1)", "1 fold 0 (0 1 3)", "1 out 0", "1 input [3] 0", "0 input [3]",
	} {
		texts = append(texts, one+line+"\nout\n")
	}
	for _, text := range texts {
		if got, ok := impl.ReadGraph(text); ok || !isNoGraph(got) {
			t.Errorf("ReadGraph(%q) = %+v, %v", text, got, ok)
		}
	}
}

// Limits of a text are those of the graph.
func TestReadGraphLimits(t *testing.T) {
	nodes, outs := "", "out"
	for number := range 200 {
		nodes += strconv.Itoa(number) + " input []\n"
	}
	for range 40 {
		outs += " 199"
	}
	if g, ok := impl.ReadGraph(nodes + outs + "\n"); !ok || len(g.Nodes) != 200 || len(g.Outs) != 40 {
		t.Error("just MaxNodes and MaxOuts")
	}
	if g, ok := impl.ReadGraph(nodes + outs + " 199\n"); ok || !isNoGraph(g) {
		t.Error("one more than MaxOuts")
	}
	if g, ok := impl.ReadGraph(nodes + "200 input []\n" + outs + "\n"); ok || !isNoGraph(g) {
		t.Error("one more than MaxNodes")
	}
	for _, text := range []string{strings.Repeat("0 ", 100000), "0 " + strings.Repeat("9", 100000), "0 input [" + strings.Repeat("1 ", 100000), "0 contract" + strings.Repeat(" 0", 100000) + strings.Repeat(",", 100000) + "->\nout\n"} {
		if g, ok := impl.ReadGraph(text); ok || !isNoGraph(g) {
			t.Error("a long text is read")
		}
	}
}

func TestReadGraphOfChangedTexts(t *testing.T) {
	source := rand.New(rand.NewSource(69))
	const bytes = " 0123456789-/#[]()+,>abcx\n\x00\xff"
	read, not := 0, 0
	for _, g := range someGraphs(300, 70) {
		s := impl.ShowGraph(g)
		for range 60 {
			at, b := source.Intn(len(s)), source.Intn(len(bytes))
			changed := s[:at] + bytes[b:b+1] + s[at+source.Intn(2):]
			switch source.Intn(4) {
			case 0:
				changed = s[:at] + s[at+1:]
			case 1:
				changed = s[:at]
			}
			got, ok := impl.ReadGraph(changed)
			_, right := wantAll(got, nil)
			switch {
			case ok && (!right || wantText(got) != changed), !ok && !isNoGraph(got), !ok && changed == s:
				t.Fatalf("ReadGraph(%q) = %+v, %v", changed, got, ok)
			case ok:
				read++
			default:
				not++
			}
		}
	}
	if read < 500 || not < 5000 {
		t.Errorf("%d were read, %d not", read, not)
	}
}

// listsOf are the lists of ints of a graph and of tensors; withLists puts
// others in their places.
func listsOf(g impl.Graph, ts []impl.Tensor) [][]int {
	lists := [][]int{g.Outs}
	for _, n := range g.Nodes {
		lists = append(lists, n.Args, n.Dims, n.Ints, n.Data)
	}
	for _, a := range ts {
		lists = append(lists, a.Dims, a.Data)
	}
	return lists
}

func withLists(g impl.Graph, ts []impl.Tensor, lists [][]int) (impl.Graph, []impl.Tensor) {
	made := impl.Graph{Outs: lists[0]}
	lists = lists[1:]
	for _, n := range g.Nodes {
		n.Args, n.Dims, n.Ints, n.Data = lists[0], lists[1], lists[2], lists[3]
		made.Nodes, lists = append(made.Nodes, n), lists[4:]
	}
	madeTensors := []impl.Tensor{}
	for range ts {
		madeTensors, lists = append(madeTensors, impl.Tensor{Dims: lists[0], Data: lists[1]}), lists[2:]
	}
	return made, madeTensors
}

func listsOfTensors(ts []impl.Tensor) [][]int { return listsOf(impl.Graph{}, ts)[1:] }

func TestGraphListsAreLeftAlone(t *testing.T) {
	source := rand.New(rand.NewSource(71))
	calls := map[string]func(g impl.Graph, inputs []impl.Tensor) [][]int{
		"Shapes":  func(g impl.Graph, _ []impl.Tensor) [][]int { return impl.Shapes(g) },
		"Inputs":  func(g impl.Graph, _ []impl.Tensor) [][]int { return [][]int{impl.Inputs(g)} },
		"Used":    func(g impl.Graph, _ []impl.Tensor) [][]int { return [][]int{impl.Used(g)} },
		"EvalAll": func(g impl.Graph, in []impl.Tensor) [][]int { return listsOfTensors(impl.EvalAll(g, in)) },
		"Eval":    func(g impl.Graph, in []impl.Tensor) [][]int { return listsOfTensors(impl.Eval(g, in)) },
		"the others": func(g impl.Graph, _ []impl.Tensor) [][]int {
			read, _ := impl.ReadGraph(impl.ShowGraph(g))
			return append(listsOf(read, nil), ints(impl.Cost(g)))
		},
	}
	graphs := append(someGraphs(60, 72), behindGround(argsNode(impl.OpAdd, 4, 4)), graphOf(ints(1, 1, 0, 0), inputNode(2), dimsNode(impl.OpReshape, 0, 2, 1)))
	for _, n := range rightNodes() {
		g := behindGround(n)
		g.Outs = append(g.Outs, 0, 0, 4, 4, len(g.Nodes)-1)
		graphs = append(graphs, g)
	}
	for _, g := range graphs {
		inputs := inputsFor(source, g)
		for name, call := range calls {
			checkAlone(t, name, listsOf(g, inputs), func(lists [][]int) [][]int {
				return call(withLists(g, inputs, lists))
			})
		}
	}
}

// The lists of nodes and of tensors are left alone, too, with the room behind
// them.
func TestGraphAndInputsAreLeftAlone(t *testing.T) {
	source := rand.New(rand.NewSource(73))
	mark := func() impl.Node { return impl.Node{Op: 77, Form: "mark"} }
	for _, g := range goodGraphs()[5:80] {
		inputs := inputsFor(source, g)
		g.Nodes = append(slices.Clone(g.Nodes), mark(), mark())[:len(g.Nodes)]
		inputs = append(slices.Clone(inputs), impl.Tensor{}, impl.Tensor{})[:len(inputs)]
		before, beforeInputs := copiedGraph(impl.Graph{Nodes: g.Nodes[:cap(g.Nodes)], Outs: g.Outs}), slices.Clone(inputs[:cap(inputs)])
		impl.Shapes(g)
		impl.Inputs(g)
		impl.EvalAll(g, inputs)
		impl.Eval(g, inputs)
		impl.Used(g)
		impl.Cost(g)
		impl.ShowGraph(g)
		if !sameGraph(before, impl.Graph{Nodes: g.Nodes[:cap(g.Nodes)], Outs: g.Outs}) || !reflect.DeepEqual(inputs[:cap(inputs)], beforeInputs) {
			t.Fatalf("%+v has changed", g)
		}
	}
}

func TestRoomBehindGraphListsIsNotRead(t *testing.T) {
	nodes := []impl.Node{inputNode(2), argsNode(impl.OpNeg, 0)}
	if impl.GraphOk(graphOf(ints(1), nodes[:1]...)) || impl.GraphOk(impl.Graph{Outs: ints(0), Nodes: nodes[:0]}) {
		t.Error("a node was read behind the list")
	}
	data, list := ints(1, 2, 3), ints(0, 1, 2)
	if impl.GraphOk(graphOf(nil, constNode(ints(3), data[:2]...))) || impl.GraphOk(graphOf(nil, inputNode(3), intsNode(impl.OpGather, 0, list[:1]...))) || impl.GraphOk(graphOf(nil, inputNode(3), argsNode(impl.OpAdd, noughts(2)[:1]...))) {
		t.Error("an int was read behind its list")
	}
	inputs := tensors(tensorOf(ints(2), 1, 2), tensorOf(ints(2), 3, 4))
	two := graphOf(ints(0, 1), inputNode(2), inputNode(2))
	if len(impl.Eval(two, inputs[:1])) > 0 || len(impl.EvalAll(two, inputs[:0])) > 0 {
		t.Error("a tensor was read behind the list")
	}
}

// Work that nobody could wait for must not be begun: a shape is known without
// numbers.
func TestGraphOkOfDearGraphs(t *testing.T) {
	nodes := []impl.Node{inputNode(256)}
	for len(nodes) < 200 {
		nodes = append(nodes, formNode("a,b->a", 0, 0))
	}
	g := graphOf(ints(199), nodes...)
	for range 200 {
		if !impl.GraphOk(g) || impl.Cost(g) != 65536 {
			t.Fatal("a dear graph is refused")
		}
	}
	if got := impl.Eval(g, tensors(built(ints(256), func(index []int) int { return index[0] }))); len(got) != 1 || got[0].Data[2] != exact(big.NewInt(2*256*255/2)) {
		t.Error("a dear graph is reckoned wrong")
	}
}

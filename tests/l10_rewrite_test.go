package tests

import (
	"fmt"
	"math"
	"math/rand"
	"reflect"
	"slices"
	"testing"

	"loop.example/g00033/impl"
)

// A wantedRewrite rewrites by the document's words; values are of noughts that
// come in, by says how often each of the rules 1 to 7 fitted, and again how often
// a node was there before.
type wantedRewrite struct {
	nodes  []impl.Node
	values []impl.Tensor
	keys   map[string]int
	by     [8]int
	again  int
}

// wantSimplify says what the document says of Simplify.
func wantSimplify(g impl.Graph) (impl.Graph, *wantedRewrite) {
	w := &wantedRewrite{keys: map[string]int{}}
	if _, ok := wantAll(g, nil); !ok {
		return impl.Graph{}, w
	}
	stands := []int{}
	for _, n := range g.Nodes {
		n = copiedNode(n)
		for at, arg := range n.Args {
			n.Args[at] = stands[arg]
		}
		stands = append(stands, w.stand(n))
	}
	outs := []int{}
	for _, out := range g.Outs {
		outs = append(outs, stands[out])
	}
	return w.swept(outs), w
}

// stand gives the number of what stands for a node over nodes that were put.
func (w *wantedRewrite) stand(n impl.Node) int {
	args, fixed := w.args(n), len(n.Args) > 0
	for _, arg := range n.Args {
		fixed = fixed && w.nodes[arg].Op == 2
	}
	if fixed {
		w.by[1]++
		value := wantNode(n, args)
		return w.put(constNode(value.Dims, value.Data...))
	}
	if rule, number := w.other(n); rule > 0 {
		w.by[rule]++
		return number
	}
	joined, joins := w.joined(n)
	if joins {
		w.by[5]++
	}
	if len(joined.Args) == 1 && givesBack(joined, w.args(joined)[0].Dims) {
		w.by[6]++
		return joined.Args[0]
	}
	if !joins {
		w.by[7]++
	}
	return w.put(joined)
}

func (w *wantedRewrite) args(n impl.Node) []impl.Tensor { return picked(w.values, n.Args) }

// filled asks whether the node is an OpConst that has nothing but x.
func (w *wantedRewrite) filled(number int, x int) bool {
	data := w.nodes[number].Data
	return w.nodes[number].Op == 2 && slices.Equal(data, slices.Repeat(ints(x), len(data)))
}

// other gives, by the rules 2 to 4, a node that is there; the rule is 0 when
// none fits.
func (w *wantedRewrite) other(n impl.Node) (int, int) {
	if n.Op >= 3 && n.Op <= 5 {
		a, b := n.Args[0], n.Args[1]
		switch {
		case n.Op == 3 && w.filled(a, 0):
			return 2, b
		case n.Op < 5 && w.filled(b, 0):
			return 2, a
		case n.Op == 5 && w.filled(a, 1):
			return 3, b
		case n.Op == 5 && w.filled(b, 1):
			return 3, a
		case n.Op == 5 && w.filled(a, 0):
			return 3, a
		case n.Op == 5 && w.filled(b, 0):
			return 3, b
		}
		return 0, 0
	}
	if slices.Contains(ints(6, 8, 9), n.Op) && w.nodes[n.Args[0]].Op == n.Op {
		if n.Op == 6 {
			return 4, w.nodes[n.Args[0]].Args[0]
		}
		return 4, n.Args[0]
	}
	return 0, 0
}

// joined gives the node by rule 5, or as it was.
func (w *wantedRewrite) joined(n impl.Node) (impl.Node, bool) {
	if n.Op != 13 && n.Op != 14 {
		return n, false
	}
	inner := w.nodes[n.Args[0]]
	switch {
	case inner.Op != n.Op:
		return n, false
	case n.Op == 13:
		return dimsNode(13, inner.Args[0], n.Dims...), true
	}
	i, o := inner.Ints, n.Ints
	if i[0] != o[0] || i[3]*o[3] > 4096 {
		return n, false
	}
	return intsNode(14, inner.Args[0], i[0], i[1]+o[1]*i[3], o[2], i[3]*o[3]), true
}

// givesBack is rule 6, of a node with one Arg of these Dims.
func givesBack(n impl.Node, dims []int) bool {
	switch n.Op {
	case 11:
		groups, outcome, _ := wantParts(n.Form)
		return groups[0] == outcome
	case 12, 13:
		return slices.Equal(n.Dims, dims)
	case 14:
		return slices.Equal(n.Ints[1:], ints(0, dims[n.Ints[0]], 1))
	case 15:
		return slices.Equal(n.Ints[1:], ints(0, 0, 0))
	case 16:
		return slices.Equal(n.Ints[1:], firstNumbers(dims[n.Ints[0]]))
	}
	return false
}

func (w *wantedRewrite) put(n impl.Node) int {
	if (n.Op == 3 || n.Op == 5) && n.Args[0] > n.Args[1] {
		n.Args = ints(n.Args[1], n.Args[0])
	}
	key := fmt.Sprint(n.Op, n.Args, n.Dims, n.Ints, n.Data, n.Form)
	if number, there := w.keys[key]; there && n.Op != 1 {
		w.again++
		return number
	}
	w.keys[key] = len(w.nodes)
	w.nodes, w.values = append(w.nodes, n), append(w.values, wantNode(n, w.args(n)))
	return len(w.nodes) - 1
}

// swept is without the nodes on which the outs do not depend.
func (w *wantedRewrite) swept(outs []int) impl.Graph {
	stays := map[int]bool{}
	for _, out := range outs {
		stays[out] = true
	}
	for number := len(w.nodes) - 1; number >= 0; number-- {
		for _, arg := range w.nodes[number].Args {
			stays[arg] = stays[arg] || stays[number]
		}
		stays[number] = stays[number] || w.nodes[number].Op == 1
	}
	g, numbers := impl.Graph{}, map[int]int{}
	for number, n := range w.nodes {
		if !stays[number] {
			continue
		}
		n = copiedNode(n)
		for at, arg := range n.Args {
			n.Args[at] = numbers[arg]
		}
		numbers[number] = len(g.Nodes)
		g.Nodes = append(g.Nodes, n)
	}
	for _, out := range outs {
		g.Outs = append(g.Outs, numbers[out])
	}
	return g
}

// checkSimplify holds Simplify against the words, and P26.
func checkSimplify(t *testing.T, source *rand.Rand, g impl.Graph) *wantedRewrite {
	t.Helper()
	got := impl.Simplify(g)
	want, w := wantSimplify(g)
	if !sameGraph(got, want) {
		t.Fatalf("Simplify of\n%sis\n%snot\n%s", wantText(g), wantText(got), wantText(want))
	}
	if !impl.GraphOk(got) || len(wantInputs(got)) != len(wantInputs(g)) {
		t.Fatalf("Simplify of\n%sis\n%s", wantText(g), wantText(got))
	}
	if again := impl.Simplify(got); !sameGraph(again, got) {
		t.Fatalf("Simplify of\n%sis\n%s, and again\n%s", wantText(g), wantText(got), wantText(again))
	}
	if before, behind := impl.Cost(g), impl.Cost(got); behind > before {
		t.Fatalf("Simplify of\n%scosts %d, not %d at most", wantText(g), behind, before)
	}
	inputs := inputsFor(source, g)
	if before, behind := impl.Eval(g, inputs), impl.Eval(got, inputs); !sameTensors(before, behind) {
		t.Fatalf("Simplify of\n%sgives %v, not %v", wantText(g), behind, before)
	}
	return w
}

// A rewriteMaker puts together graphs that can be made simpler in many ways.
type rewriteMaker struct {
	source *rand.Rand
	g      impl.Graph
	values []impl.Tensor
}

// add puts the node behind the others if it gives a small tensor.
func (m *rewriteMaker) add(n impl.Node) {
	if value := wantNode(n, picked(m.values, n.Args)); wantTensorOk(value) && len(value.Data) <= 60 {
		m.g.Nodes, m.values = append(m.g.Nodes, n), append(m.values, value)
	}
}

// arg is mostly one of the last nodes, so that what is done comes in chains.
func (m *rewriteMaker) arg() int {
	count := len(m.values)
	if m.source.Intn(3) > 0 {
		return count - 1 - m.source.Intn(min(count, 3))
	}
	return m.source.Intn(count)
}

// like is the number of a node of this shape.
func (m *rewriteMaker) like(dims []int) int {
	numbers := []int{}
	for number, value := range m.values {
		if slices.Equal(value.Dims, dims) {
			numbers = append(numbers, number)
		}
	}
	return numbers[m.source.Intn(len(numbers))]
}

// step adds one node, or two.
func (m *rewriteMaker) step() {
	if len(m.values) == 0 {
		m.add(inputNode(randomDims(m.source, m.source.Intn(4), 4)...))
		return
	}
	arg := m.arg()
	dims := m.values[arg].Dims
	switch kind := m.source.Intn(12); kind {
	case 0, 1:
		m.add(randomNode(m.source, m.values))
	case 2, 3:
		m.pairWithFilled(arg, dims)
	case 4:
		pair := ints(arg, m.like(dims))
		m.add(argsNode(3+m.source.Intn(3), pair...))
		if m.source.Intn(2) == 0 {
			m.add(argsNode(3+m.source.Intn(3), pair[1], pair[0]))
		}
	case 5, 6:
		op := ints(6, 8, 9)[m.source.Intn(3)]
		m.add(argsNode(op, arg))
		m.add(argsNode(op, len(m.values)-1))
	case 7:
		all := dimsOf(len(m.values[arg].Data))
		m.add(dimsNode(impl.OpReshape, arg, all[m.source.Intn(len(all))]...))
		m.add(dimsNode(impl.OpReshape, len(m.values)-1, dims...))
	case 8:
		m.add(intsNode(impl.OpSlice, arg, randomInts(m.source, impl.OpSlice, dims)...))
		last := len(m.values) - 1
		m.add(intsNode(impl.OpSlice, last, randomInts(m.source, impl.OpSlice, m.values[last].Dims)...))
	case 9, 10:
		m.add(idleNode(m.source, arg, dims))
	default:
		m.add(copiedNode(m.g.Nodes[m.source.Intn(len(m.g.Nodes))]))
	}
}

// pairWithFilled adds an OpConst that is all 0 or 1, or nearly so, and a pair of
// the Arg and it.
func (m *rewriteMaker) pairWithFilled(arg int, dims []int) {
	filled := impl.Fill(dims, m.source.Intn(2))
	if m.source.Intn(4) == 0 {
		filled.Data[len(filled.Data)-1] = m.source.Intn(3)
	}
	m.add(constNode(filled.Dims, filled.Data...))
	pair := ints(arg, len(m.values)-1)
	if m.source.Intn(2) == 0 {
		slices.Reverse(pair)
	}
	m.add(argsNode(3+m.source.Intn(3), pair...))
}

// idleNode gives back what its Arg gives, or nearly so.
func idleNode(source *rand.Rand, arg int, dims []int) impl.Node {
	letters := "abcxyz"[:len(dims)]
	if len(dims) > 0 {
		axis := source.Intn(len(dims))
		length := dims[axis]
		switch source.Intn(6) {
		case 0:
			return intsNode(impl.OpSlice, arg, axis, 0, length, 1+source.Intn(2))
		case 1:
			list := ints(axis, 0, 0, 0)
			list[1+source.Intn(3)] = source.Intn(2)
			return intsNode(impl.OpPad, arg, list...)
		case 2:
			index := firstNumbers(length)
			index[source.Intn(length)] = source.Intn(length)
			return intsNode(impl.OpGather, arg, append(ints(axis), index...)...)
		case 3:
			return formNode(letters+"->"+letters[:axis]+letters[axis+1:]+letters[axis:axis+1], arg)
		}
	}
	if source.Intn(2) == 0 {
		return formNode(letters+"->"+letters, arg)
	}
	return dimsNode(12+source.Intn(2), arg, dims...)
}

// rewriteGraphs are graphs that are GraphOk, with some nodes that no Out needs.
func rewriteGraphs(count int, seed int64) []impl.Graph {
	source := rand.New(rand.NewSource(seed))
	graphs := []impl.Graph{}
	for range count {
		m := &rewriteMaker{source: source}
		for range 1 + source.Intn(25) {
			m.step()
		}
		for range source.Intn(6) {
			m.g.Outs = append(m.g.Outs, m.arg())
		}
		graphs = append(graphs, m.g)
	}
	return graphs
}

// P26.
func TestSimplifyAgainstWords(t *testing.T) {
	source := rand.New(rand.NewSource(127))
	var by [8]int
	again := 0
	for _, g := range slices.Concat(rewriteGraphs(1500, 128), goodGraphs(), slopeGraphs(), gradGraphs(60, 129)) {
		w := checkSimplify(t, source, g)
		for rule, count := range w.by {
			by[rule] += count
		}
		again += w.again
	}
	for rule, count := range by[1:] {
		if count < 500 {
			t.Errorf("rule %d fits %d times", rule+1, count)
		}
	}
	if again < 1000 {
		t.Errorf("%d nodes were there before", again)
	}
}

// A rewriteRow has the text of a graph, and the text of what it comes to.
type rewriteRow struct{ text, want string }

func (r rewriteRow) check(t *testing.T) {
	t.Helper()
	g, ok := impl.ReadGraph(r.text)
	if !ok {
		t.Fatalf("%q is no graph", r.text)
	}
	got := impl.Simplify(g)
	if wantText(got) != r.want {
		t.Errorf("Simplify of\n%sis\n%snot\n%s", r.text, wantText(got), r.want)
	}
	checkSimplify(t, rand.New(rand.NewSource(130)), g)
}

func checkRows(t *testing.T, rows []rewriteRow) {
	t.Helper()
	for _, row := range rows {
		row.check(t)
	}
}

// checkStays wants graphs that come to themselves.
func checkStays(t *testing.T, texts ...string) {
	t.Helper()
	for _, text := range texts {
		rewriteRow{text, text}.check(t)
	}
}

func TestSimplifyOfConsts(t *testing.T) {
	two := "0 const [2] 3 -4\n1 const [2] 5 1/2\n"
	checkRows(t, []rewriteRow{
		{"0 const [2] 1 2\n1 neg 0\nout 1\n", "0 const [2] -1 -2\nout 0\n"},
		{two + "2 add 0 1\nout 2\n", "0 const [2] 8 -7/2\nout 0\n"},
		{two + "2 sub 0 1\nout 2\n", "0 const [2] -2 -9/2\nout 0\n"},
		{two + "2 sub 1 0\nout 2 0\n", "0 const [2] 3 -4\n1 const [2] 2 9/2\nout 1 0\n"},
		{two + "2 mul 0 1\nout 2\n", "0 const [2] 15 -2\nout 0\n"},
		{two + "2 mul 0 0\nout 2\n", "0 const [2] 9 16\nout 0\n"},
		{two + "2 inv 1\n3 step 0\n4 relu 0\nout 2 3 4\n", "0 const [2] 1/5 2\n1 const [2] 1 0\n2 const [2] 3 0\nout 0 1 2\n"},
		{two + "2 top 1 (0)\nout 2\n", "0 const [2] 1 0\nout 0\n"},
		{two + "2 contract 0 a->\nout 2\n", "0 const [] -1\nout 0\n"},
		{two + "2 contract 0 a->a\nout 2\n", "0 const [2] 3 -4\nout 0\n"},
		{two + "2 contract 0 1 a,a->\nout 2\n", "0 const [] 13\nout 0\n"},
		{two + "2 contract 0 1 0 a,b,a->b\nout 2\n", "0 const [2] 125 25/2\nout 0\n"},
		{two + "2 contract 0 0 0 0 0 0 a,a,a,a,a,a->a\nout 2\n", "0 const [2] 729 4096\nout 0\n"},
		{two + "2 spread 0 [2 2]\n3 reshape 2 [4]\nout 3\n", "0 const [4] 3 -4 3 -4\nout 0\n"},
		{two + "2 pad 0 (0 1 0 1)\n3 slice 2 (0 1 3 1)\nout 2 3\n", "0 const [4] 0 3 0 -4\n1 const [3] 3 0 -4\nout 0 1\n"},
		{two + "2 gather 0 (0 1 1 0)\n3 scatter 2 (0 2 1 1 0)\nout 3\n", "0 const [2] 3 -8\nout 0\n"},
		{two + "2 window 0 (0 1 1)\n3 fold 2 (0 1 2)\nout 2 3\n", "0 const [2] 3 -4\n1 const [2 1] 3 -4\nout 1 0\n"},
		// What came by a rule is a constant for those behind it.
		{"0 const [] 5\n1 neg 0\n2 neg 1\nout 1 2\n", "0 const [] 5\n1 const [] -5\nout 1 0\n"},
		{"0 const [] 2\n1 mul 0 0\n2 mul 1 1\n3 mul 2 2\n4 add 3 0\nout 4\n", "0 const [] 258\nout 0\n"},
		{"0 input []\n1 const [] 0\n2 mul 0 1\n3 neg 2\n4 step 3\nout 4\n", "0 input []\n1 const [] 0\nout 1\n"},
		// A constant that is reckoned is one that was there.
		{"0 const [] 2\n1 const [] 4\n2 mul 0 0\n3 add 0 0\nout 1 2 3\n", "0 const [] 4\nout 0 0 0\n"},
		{"0 const [] 2\n1 mul 0 0\n2 const [] 4\n3 input []\n4 mul 3 2\nout 1 4\n", "0 const [] 4\n1 input []\n2 mul 0 1\nout 0 2\n"},
		// Rules that come later would fit, too.
		{"0 const [2] 0 0\n1 const [2] 7 0\n2 add 0 1\n3 sub 1 0\n4 mul 0 1\nout 2 3 4\n", "0 const [2] 0 0\n1 const [2] 7 0\nout 1 1 0\n"},
		{"0 const [2] 3 0\n1 relu 0\n2 relu 1\n3 step 2\n4 step 3\nout 2 4\n", "0 const [2] 3 0\n1 const [2] 1 0\nout 0 1\n"},
		{"0 const [2] 3 0\n1 reshape 0 [2 1]\n2 reshape 1 [2]\n3 spread 2 [2]\nout 3\n", "0 const [2] 3 0\nout 0\n"},
	})
	checkStays(t,
		"0 const [2] 1 2\nout 0\n", "0 input [2]\nout 0\n", "0 const [] 0\nout 0\n", "0 const [] 1\nout 0 0\n", "0 input []\n1 const [] 7\n2 add 0 1\nout 2\n", "0 input []\n1 const [] 7\n2 sub 1 0\nout 2\n",
		"0 input [2]\n1 const [2] 7 8\n2 contract 0 1 a,a->\nout 2\n", "0 input [2]\n1 const [2] 7 8\n2 contract 1 1 0 a,a,b->b\nout 2\n", "0 const [2] 7 8\n1 input []\n2 contract 0 0 0 0 0 1 a,a,a,a,a,->\nout 2\n", "0 input [2]\n1 neg 0\nout 1\n",
	)
}

func TestSimplifyOfNoughts(t *testing.T) {
	noughts := "0 input [2]\n1 const [2] 0 0\n"
	spread := "0 input [2 3]\n1 const [] 0\n2 spread 1 [2 3]\n"
	checkRows(t, []rewriteRow{
		{noughts + "2 add 0 1\nout 2\n", "0 input [2]\nout 0\n"},
		{noughts + "2 add 1 0\nout 2\n", "0 input [2]\nout 0\n"},
		{noughts + "2 add 1 1\nout 2\n", "0 input [2]\n1 const [2] 0 0\nout 1\n"},
		{noughts + "2 sub 0 1\nout 2\n", "0 input [2]\nout 0\n"},
		{noughts + "2 sub 1 1\nout 2\n", "0 input [2]\n1 const [2] 0 0\nout 1\n"},
		{noughts + "2 const [2] 0 0\n3 add 1 2\n4 add 3 0\nout 3 4\n", "0 input [2]\n1 const [2] 0 0\nout 1 0\n"},
		{noughts + "2 neg 0\n3 add 1 2\n4 sub 3 1\n5 relu 4\nout 5 1\n", "0 input [2]\n1 const [2] 0 0\n2 neg 0\n3 relu 2\nout 3 1\n"},
		{spread + "3 add 0 2\nout 3\n", "0 input [2 3]\nout 0\n"},
		{spread + "3 add 2 0\nout 3\n", "0 input [2 3]\nout 0\n"},
		{spread + "3 add 2 2\nout 3\n", "0 input [2 3]\n1 const [2 3] 0 0 0 0 0 0\nout 1\n"},
		{spread + "3 sub 0 2\nout 3\n", "0 input [2 3]\nout 0\n"},
		{spread + "3 mul 0 2\nout 3\n", "0 input [2 3]\n1 const [2 3] 0 0 0 0 0 0\nout 1\n"},
		{spread + "3 sub 2 0\nout 3\n", "0 input [2 3]\n1 const [2 3] 0 0 0 0 0 0\n2 sub 1 0\nout 2\n"},
		// The other is spread itself.
		{"0 input [3]\n1 const [2 3] 0 0 0 0 0 0\n2 spread 0 [2 3]\n3 add 2 1\nout 3\n", "0 input [3]\n1 spread 0 [2 3]\nout 1\n"},
		// What comes to be noughts counts as such.
		{"0 input []\n1 const [] 0\n2 mul 0 1\n3 add 2 0\n4 neg 1\n5 add 3 4\n6 sub 5 2\nout 6\n", "0 input []\nout 0\n"},
		{"0 input [2]\n1 const [] 0\n2 spread 1 [2]\n3 add 0 2\n4 add 2 3\n5 sub 4 2\nout 5\n", "0 input [2]\nout 0\n"},
	})
	checkStays(t, noughts+"2 sub 1 0\nout 2\n", noughts+"2 neg 0\n3 sub 1 2\nout 3\n", noughts+"2 contract 0 1 a,a->\nout 2\n",
		"0 input [3]\n1 const [3] 0 0 1\n2 add 0 1\nout 2\n", "0 input [3]\n1 const [3] 1 0 0\n2 add 0 1\nout 2\n", "0 input [3]\n1 const [3] 0 -1 0\n2 sub 0 1\nout 2\n",
		"0 input [3]\n1 const [3] 0 0 1/2\n2 sub 0 1\nout 2\n", "0 input [2]\n1 const [2] 1 1\n2 add 0 1\n3 sub 0 1\nout 2 3\n", "0 input [2]\n1 sub 0 0\n2 add 0 1\nout 2\n", "0 input [2]\n1 input [2]\n2 add 0 1\nout 2\n")
}

func TestSimplifyOfOnes(t *testing.T) {
	both := "0 input [2]\n1 const [2] 1 1\n2 const [2] 0 0\n"
	checkRows(t, []rewriteRow{
		{both + "3 mul 0 1\nout 3\n", "0 input [2]\nout 0\n"},
		{both + "3 mul 1 0\nout 3\n", "0 input [2]\nout 0\n"},
		{both + "3 mul 1 1\nout 3\n", "0 input [2]\n1 const [2] 1 1\nout 1\n"},
		{both + "3 mul 0 2\nout 3\n", "0 input [2]\n1 const [2] 0 0\nout 1\n"},
		{both + "3 mul 2 0\nout 3\n", "0 input [2]\n1 const [2] 0 0\nout 1\n"},
		{both + "3 mul 2 2\nout 3\n", "0 input [2]\n1 const [2] 0 0\nout 1\n"},
		{both + "3 mul 1 2\nout 3\n", "0 input [2]\n1 const [2] 0 0\nout 1\n"},
		{both + "3 mul 2 1\nout 3\n", "0 input [2]\n1 const [2] 0 0\nout 1\n"},
		{both + "3 mul 1 2\n4 mul 0 1\n5 mul 2 4\n6 add 5 4\nout 3 4 5 6\n", "0 input [2]\n1 const [2] 0 0\nout 1 0 1 0\n"},
		{both + "3 neg 0\n4 mul 1 3\n5 neg 4\nout 5\n", "0 input [2]\nout 0\n"},
		{both + "3 neg 0\n4 mul 3 2\n5 add 4 0\n6 mul 5 1\nout 4 6\n", "0 input [2]\n1 const [2] 0 0\nout 1 0\n"},
		{"0 const [] 1\n1 spread 0 [2 2]\n2 input [2 2]\n3 mul 1 2\n4 mul 3 1\nout 4\n", "0 input [2 2]\nout 0\n"},
		{"0 const [] 3\n1 inv 0\n2 mul 0 1\n3 input []\n4 mul 3 2\nout 4\n", "0 input []\nout 0\n"},
	})
	checkStays(t,
		"0 input [2]\n1 const [2] 0 1\n2 mul 0 1\nout 2\n", "0 input [2]\n1 const [2] 1 0\n2 mul 0 1\nout 2\n", "0 input [3]\n1 const [3] 1 1 2\n2 mul 0 1\nout 2\n", "0 input [3]\n1 const [3] 0 0 1\n2 mul 0 1\nout 2\n",
		"0 const [3] 1 1 -1\n1 input [3]\n2 mul 0 1\nout 2\n", "0 const [3] 0 0 -1\n1 input [3]\n2 mul 0 1\nout 2\n", "0 const [2] 11 11\n1 input [2]\n2 mul 0 1\nout 2\n", "0 input [2]\n1 const [2] -1 -1\n2 mul 0 1\nout 2\n",
		"0 input [2]\n1 const [2] 1 1\n2 contract 0 1 a,a->a\nout 2\n", "0 input [2]\n1 step 0\n2 mul 0 1\nout 2\n", "0 input [2]\n1 mul 0 0\nout 1\n",
	)
}

func TestSimplifyOfWhatIsDoneTwice(t *testing.T) {
	chain := func(words ...string) string {
		text := "0 input [2]\n"
		for at, word := range words {
			text += fmt.Sprintf("%d %s %d\n", at+1, word, at)
		}
		return fmt.Sprintf("%sout %d\n", text, len(words))
	}
	checkRows(t, []rewriteRow{
		{chain("neg", "neg"), "0 input [2]\nout 0\n"},
		{chain("neg", "neg", "neg"), chain("neg")},
		{chain("neg", "neg", "neg", "neg"), "0 input [2]\nout 0\n"},
		{chain("relu", "relu"), chain("relu")},
		{chain("relu", "relu", "relu"), chain("relu")},
		{chain("step", "step"), chain("step")},
		{chain("step", "step", "step"), chain("step")},
		{chain("relu", "neg", "neg", "relu"), chain("relu")},
		{chain("step", "neg", "neg", "step", "relu", "relu"), chain("step", "relu")},
		{"0 input [2]\n1 neg 0\n2 neg 1\n3 neg 2\nout 1 2 3\n", "0 input [2]\n1 neg 0\nout 1 0 1\n"},
		{"0 input [2]\n1 relu 0\n2 relu 1\n3 relu 0\n4 add 2 3\nout 4\n", "0 input [2]\n1 relu 0\n2 add 1 1\nout 2\n"},
		// An earlier rule makes constants of all of them.
		{"0 const [] -3\n1 neg 0\n2 neg 1\n3 relu 2\n4 relu 3\nout 2 4\n", "0 const [] -3\n1 const [] 0\nout 0 1\n"},
	})
	checkStays(t, chain("neg"), chain("relu"), chain("step"), chain("step", "relu"), chain("relu", "step"), chain("relu", "neg", "relu"), chain("neg", "relu", "neg"), chain("inv", "inv"), chain("step", "neg", "step"), chain("inv", "neg", "inv"))
}

func TestSimplifyOfReshapes(t *testing.T) {
	checkRows(t, []rewriteRow{
		{"0 input [2 3]\n1 reshape 0 [6]\n2 reshape 1 [2 3]\nout 2\n", "0 input [2 3]\nout 0\n"},
		{"0 input [2 3]\n1 reshape 0 [6]\n2 reshape 1 [3 2]\nout 2\n", "0 input [2 3]\n1 reshape 0 [3 2]\nout 1\n"},
		{"0 input [2 3]\n1 reshape 0 [6]\n2 reshape 1 [3 2]\n3 reshape 2 [1 6]\nout 3\n", "0 input [2 3]\n1 reshape 0 [1 6]\nout 1\n"},
		{"0 input [2 3]\n1 reshape 0 [6]\n2 reshape 1 [3 2]\n3 reshape 2 [2 3]\nout 3\n", "0 input [2 3]\nout 0\n"},
		{"0 input [2 3]\n1 reshape 0 [6]\n2 reshape 1 [2 3]\n3 reshape 2 [6 1]\nout 1 2 3\n", "0 input [2 3]\n1 reshape 0 [6]\n2 reshape 0 [6 1]\nout 1 0 2\n"},
		{"0 input [2 3]\n1 reshape 0 [6]\n2 reshape 1 [3 2]\nout 1 2\n", "0 input [2 3]\n1 reshape 0 [6]\n2 reshape 0 [3 2]\nout 1 2\n"},
		{"0 input [2 3]\n1 reshape 0 [6]\n2 reshape 1 [6]\nout 2\n", "0 input [2 3]\n1 reshape 0 [6]\nout 1\n"},
		{"0 input [2 3]\n1 reshape 0 [6]\n2 reshape 0 [3 2]\n3 reshape 1 [3 2]\n4 add 3 2\nout 4\n", "0 input [2 3]\n1 reshape 0 [3 2]\n2 add 1 1\nout 2\n"},
		{"0 input []\n1 reshape 0 [1 1]\n2 reshape 1 [1]\n3 reshape 2 []\nout 3 2\n", "0 input []\n1 reshape 0 [1]\nout 0 1\n"},
		{"0 input [2 3]\n1 reshape 0 [2 3]\nout 1\n", "0 input [2 3]\nout 0\n"},
		{"0 input []\n1 reshape 0 []\n2 spread 1 []\nout 2\n", "0 input []\nout 0\n"},
		{"0 input [2]\n1 reshape 0 [2 1]\n2 spread 1 [2 1]\n3 reshape 2 [2]\nout 3\n", "0 input [2]\nout 0\n"},
		{"0 input [2 3]\n1 spread 0 [2 3]\n2 neg 1\nout 2\n", "0 input [2 3]\n1 neg 0\nout 1\n"},
	})
	checkStays(t, "0 input [2 3]\n1 reshape 0 [3 2]\nout 1\n", "0 input [2 3]\n1 reshape 0 [1 2 3]\nout 1\n", "0 input [2 3]\n1 spread 0 [1 2 3]\nout 1\n", "0 input [1 3]\n1 spread 0 [2 3]\nout 1\n", "0 input []\n1 reshape 0 [1]\nout 1\n",
		"0 input [2]\n1 reshape 0 [2 1]\n2 neg 1\n3 reshape 2 [2]\nout 3\n", "0 input [1]\n1 spread 0 [1 1]\n2 spread 1 [2 3]\nout 2\n", "0 input [2 2]\n1 reshape 0 [4]\n2 spread 1 [2 4]\n3 reshape 2 [2 2 2]\nout 3\n")
}

func TestSimplifyOfSlices(t *testing.T) {
	checkRows(t, []rewriteRow{
		{"0 input [12]\n1 slice 0 (0 1 5 2)\n2 slice 1 (0 1 2 2)\nout 2\n", "0 input [12]\n1 slice 0 (0 3 2 4)\nout 1\n"},
		{"0 input [12]\n1 slice 0 (0 1 5 2)\n2 slice 1 (0 1 2 2)\nout 2 1\n", "0 input [12]\n1 slice 0 (0 1 5 2)\n2 slice 0 (0 3 2 4)\nout 2 1\n"},
		{"0 input [2 12]\n1 slice 0 (1 2 3 3)\n2 slice 1 (1 2 1 1)\nout 2\n", "0 input [2 12]\n1 slice 0 (1 8 1 3)\nout 1\n"},
		{"0 input [12]\n1 slice 0 (0 1 11 1)\n2 slice 1 (0 1 10 1)\n3 slice 2 (0 1 9 1)\nout 3\n", "0 input [12]\n1 slice 0 (0 3 9 1)\nout 1\n"},
		{"0 input [12]\n1 slice 0 (0 0 6 2)\n2 slice 1 (0 0 3 2)\n3 slice 2 (0 1 1 3)\nout 3\n", "0 input [12]\n1 slice 0 (0 4 1 12)\nout 1\n"},
		// The outer one takes all of the inner one, and so comes to be it.
		{"0 input [12]\n1 slice 0 (0 1 5 2)\n2 slice 1 (0 0 5 1)\nout 2 1\n", "0 input [12]\n1 slice 0 (0 1 5 2)\nout 1 1\n"},
		// The inner one takes all.
		{"0 input [12]\n1 slice 0 (0 0 12 1)\n2 slice 1 (0 3 4 2)\nout 2\n", "0 input [12]\n1 slice 0 (0 3 4 2)\nout 1\n"},
		{"0 input [12]\n1 slice 0 (0 0 12 1)\n2 slice 1 (0 0 12 1)\nout 2\n", "0 input [12]\nout 0\n"},
		{"0 input [1]\n1 slice 0 (0 0 1 1)\n2 slice 1 (0 0 1 1)\nout 2\n", "0 input [1]\nout 0\n"},
		{"0 input [1]\n1 slice 0 (0 0 1 2)\n2 slice 1 (0 0 1 1)\nout 2\n", "0 input [1]\n1 slice 0 (0 0 1 2)\nout 1\n"},
		{"0 input [1]\n1 slice 0 (0 0 1 2)\n2 slice 1 (0 0 1 3)\nout 2\n", "0 input [1]\n1 slice 0 (0 0 1 6)\nout 1\n"},
		// Steps of which the product is just MaxSize.
		{"0 input [4096]\n1 slice 0 (0 0 64 64)\n2 slice 1 (0 0 1 64)\nout 2\n", "0 input [4096]\n1 slice 0 (0 0 1 4096)\nout 1\n"},
		{"0 input [4096]\n1 slice 0 (0 5 60 64)\n2 slice 1 (0 59 1 64)\nout 2\n", "0 input [4096]\n1 slice 0 (0 3781 1 4096)\nout 1\n"},
		{"0 input [3]\n1 slice 0 (0 2 1 4096)\n2 slice 1 (0 0 1 1)\nout 2\n", "0 input [3]\n1 slice 0 (0 2 1 4096)\nout 1\n"},
		{"0 input [3]\n1 slice 0 (0 1 2 1)\n2 slice 1 (0 1 1 4096)\nout 2\n", "0 input [3]\n1 slice 0 (0 2 1 4096)\nout 1\n"},
		// The first two can't be joined, the last two can.
		{"0 input [1]\n1 slice 0 (0 0 1 4096)\n2 slice 1 (0 0 1 2)\n3 slice 2 (0 0 1 3)\nout 3\n", "0 input [1]\n1 slice 0 (0 0 1 4096)\n2 slice 1 (0 0 1 6)\nout 2\n"},
		{"0 input [4 4]\n1 slice 0 (0 0 2 2)\n2 slice 1 (1 0 2 2)\n3 slice 2 (1 1 1 1)\nout 3\n", "0 input [4 4]\n1 slice 0 (0 0 2 2)\n2 slice 1 (1 2 1 2)\nout 2\n"},
		// Between them something leaves.
		{"0 input [12]\n1 slice 0 (0 1 5 2)\n2 pad 1 (0 0 0 0)\n3 neg 2\n4 neg 3\n5 slice 4 (0 1 2 2)\nout 5\n", "0 input [12]\n1 slice 0 (0 3 2 4)\nout 1\n"},
		{"0 input [5]\n1 slice 0 (0 0 5 1)\nout 1\n", "0 input [5]\nout 0\n"},
		{"0 input [2 5]\n1 slice 0 (1 0 5 1)\n2 slice 1 (0 0 2 1)\nout 2\n", "0 input [2 5]\nout 0\n"},
		{"0 input [1 1]\n1 slice 0 (1 0 1 1)\nout 1\n", "0 input [1 1]\nout 0\n"},
	})
	checkStays(t,
		"0 input [4 4]\n1 slice 0 (0 0 2 2)\n2 slice 1 (1 0 2 2)\nout 2\n", "0 input [4 4]\n1 slice 0 (0 0 2 2)\n2 slice 1 (1 0 2 2)\n3 slice 2 (0 1 1 1)\nout 3\n",
		"0 input [4096]\n1 slice 0 (0 0 17 241)\n2 slice 1 (0 0 1 17)\nout 2\n", "0 input [4096]\n1 slice 0 (0 0 2 4095)\n2 slice 1 (0 1 1 2)\nout 2\n", "0 input [1]\n1 slice 0 (0 0 1 4096)\n2 slice 1 (0 0 1 4096)\nout 2\n", "0 input [1]\n1 slice 0 (0 0 1 241)\n2 slice 1 (0 0 1 17)\nout 2\n",
		"0 input [1]\n1 slice 0 (0 0 1 2)\nout 1\n", "0 input [3 1]\n1 slice 0 (1 0 1 4096)\nout 1\n", "0 input [5]\n1 slice 0 (0 0 4 1)\nout 1\n", "0 input [5]\n1 slice 0 (0 1 4 1)\nout 1\n", "0 input [5]\n1 slice 0 (0 0 3 2)\nout 1\n", "0 input [2]\n1 slice 0 (0 0 1 1)\nout 1\n",
	)
}

func TestSimplifyOfWhatGivesBackItsArg(t *testing.T) {
	rank := "0 input [2 3]\n"
	idle := []string{"pad 0 (0 0 0 0)", "pad 0 (1 0 0 0)", "gather 0 (0 0 1)", "gather 0 (1 0 1 2)", "contract 0 ab->ab", "contract 0 ba->ba", "contract 0 zc->zc", "spread 0 [2 3]", "reshape 0 [2 3]", "slice 0 (0 0 2 1)", "slice 0 (1 0 3 1)"}
	for _, node := range idle {
		checkRows(t, []rewriteRow{
			{rank + "1 " + node + "\nout 1\n", rank + "out 0\n"},
			{rank + "1 " + node + "\n2 neg 1\n3 add 1 2\nout 3 1\n", rank + "1 neg 0\n2 add 0 1\nout 2 0\n"},
		})
	}
	stay := []string{
		"pad 0 (0 1 0 0)", "pad 0 (0 0 1 0)", "pad 0 (0 0 0 1)", "pad 0 (1 1 0 0)", "gather 0 (0 1 0)", "gather 0 (1 0 2 1)", "gather 0 (1 2 1 0)", "gather 0 (0 0)", "gather 0 (1 0 1)", "gather 0 (1 0)", "gather 0 (0 0 1 0)", "gather 0 (1 0 1 2 2)", "gather 0 (1 0 0 2)", "gather 0 (0 0 0)",
		"contract 0 ab->ba", "contract 0 ab->a", "contract 0 ab->b", "contract 0 ab->", "spread 0 [1 2 3]", "reshape 0 [6]", "slice 0 (0 0 1 1)", "top 0 (1)", "scatter 0 (0 2 0 1)", "scatter 0 (1 3 0 1 2)", "window 0 (0 1 1)", "inv 0", "contract 0 0 ab,ab->ab",
	}
	for _, node := range stay {
		checkStays(t, rank+"1 "+node+"\nout 1\n")
	}
	checkRows(t, []rewriteRow{
		{"0 input []\n1 contract 0 ->\nout 1\n", "0 input []\nout 0\n"},
		{"0 input [1]\n1 gather 0 (0 0)\nout 1\n", "0 input [1]\nout 0\n"},
		{"0 input [1]\n1 pad 0 (0 0 0 0)\n2 pad 1 (0 0 0 0)\nout 2\n", "0 input [1]\nout 0\n"},
		{"0 input [1 2 1 1 2 1]\n1 contract 0 fedcba->fedcba\nout 1\n", "0 input [1 2 1 1 2 1]\nout 0\n"},
	})
	checkStays(t, "0 input [2 2]\n1 contract 0 aa->a\nout 1\n", "0 input [2 2]\n1 contract 0 aa->\nout 1\n", "0 input [2]\n1 input []\n2 contract 0 1 a,->a\nout 2\n", "0 input [2]\n1 input [3]\n2 contract 0 1 a,b->ab\nout 2\n",
		"0 input []\n1 contract 0 0 ,->\nout 1\n", "0 input [1]\n1 pad 0 (0 0 0 1)\nout 1\n", "0 input [1]\n1 gather 0 (0 0 0)\nout 1\n", "0 input [2 3]\n1 contract 0 ab->ba\n2 contract 1 ab->ba\nout 2\n")
}

func TestSimplifyOrdersArgsAndFindsTheSame(t *testing.T) {
	two := "0 input [2]\n1 input [2]\n"
	checkRows(t, []rewriteRow{
		{two + "2 add 1 0\nout 2\n", two + "2 add 0 1\nout 2\n"},
		{two + "2 mul 1 0\nout 2\n", two + "2 mul 0 1\nout 2\n"},
		{two + "2 add 0 1\n3 add 1 0\nout 2 3\n", two + "2 add 0 1\nout 2 2\n"},
		{two + "2 mul 1 0\n3 mul 0 1\nout 3 2\n", two + "2 mul 0 1\nout 2 2\n"},
		{two + "2 add 0 1\n3 mul 0 1\n4 add 0 1\nout 2 3 4\n", two + "2 add 0 1\n3 mul 0 1\nout 2 3 2\n"},
		{two + "2 sub 0 1\n3 sub 0 1\nout 2 3\n", two + "2 sub 0 1\nout 2 2\n"},
		{two + "2 neg 0\n3 neg 0\n4 add 2 3\nout 4\n", two + "2 neg 0\n3 add 2 2\nout 3\n"},
		// Args ascend by the numbers of what stands for them.
		{two + "2 neg 1\n3 neg 2\n4 neg 0\n5 add 4 3\n6 mul 3 0\nout 5 6\n", two + "2 neg 0\n3 add 1 2\n4 mul 0 1\nout 3 4\n"},
		{two + "2 relu 0\n3 relu 1\n4 relu 0\n5 mul 3 4\n6 mul 2 3\nout 5 6\n", two + "2 relu 0\n3 relu 1\n4 mul 2 3\nout 4 4\n"},
		// One that no Out needs was put before, and holds the place.
		{"0 input [2]\n1 neg 0\n2 relu 0\n3 neg 0\nout 2 3\n", "0 input [2]\n1 neg 0\n2 relu 0\nout 2 1\n"},
		{two + "2 neg 1\n3 relu 0\n4 add 3 2\n5 neg 1\n6 relu 0\n7 add 5 6\nout 7\n", two + "2 neg 1\n3 relu 0\n4 add 2 3\nout 4\n"},
		{"0 const [2] 1 2\n1 const [2] 1 2\n2 const [1 2] 1 2\n3 const [2] 2 1\nout 0 1 2 3\n", "0 const [2] 1 2\n1 const [1 2] 1 2\n2 const [2] 2 1\nout 0 0 1 2\n"},
		{"0 input [2 3]\n1 gather 0 (0 1)\n2 gather 0 (0 0)\n3 gather 0 (0 1)\n4 gather 0 (1 1)\nout 1 2 3 4\n", "0 input [2 3]\n1 gather 0 (0 1)\n2 gather 0 (0 0)\n3 gather 0 (1 1)\nout 1 2 1 3\n"},
		{"0 input [2 3]\n1 contract 0 ab->ba\n2 contract 0 ba->ab\n3 contract 0 ab->ba\nout 1 2 3\n", "0 input [2 3]\n1 contract 0 ab->ba\n2 contract 0 ba->ab\nout 1 2 1\n"},
		{"0 input [2]\n1 spread 0 [1 2]\n2 reshape 0 [1 2]\n3 spread 0 [1 2]\nout 1 2 3\n", "0 input [2]\n1 spread 0 [1 2]\n2 reshape 0 [1 2]\nout 1 2 1\n"},
		{two + "2 contract 1 0 a,a->\n3 contract 0 1 a,a->\n4 contract 1 0 a,a->\nout 2 3 4\n", two + "2 contract 1 0 a,a->\n3 contract 0 1 a,a->\nout 2 3 2\n"},
		// Inputs that are the same both stay, and so do those that nobody needs.
		{two + "2 neg 0\n3 neg 1\n4 input [2]\nout 2 3\n", two + "2 neg 0\n3 neg 1\n4 input [2]\nout 2 3\n"},
		{two + "2 input [2]\nout 1\n", two + "2 input [2]\nout 1\n"},
		{two + "2 neg 0\n3 const [2] 0 0\n4 relu 1\n5 input []\n6 step 4\nout 4\n", two + "2 relu 1\n3 input []\nout 2\n"},
		{two + "2 neg 0\n3 input [3]\nout\n", two + "2 input [3]\nout\n"},
		{"0 const [] 1\n1 neg 0\nout\n", "out\n"},
		{"out\n", "out\n"},
		// Outs that are one, and that come to be one.
		{two + "2 sub 1 0\nout 2 2 0 0\n", two + "2 sub 1 0\nout 2 2 0 0\n"},
		{two + "2 neg 0\n3 neg 2\n4 neg 3\n5 slice 4 (0 0 2 1)\nout 5 4 3 2 0\n", two + "2 neg 0\nout 2 2 0 2 0\n"},
	})
	checkStays(t, two+"2 sub 1 0\n3 sub 0 1\nout 2 3\n", two+"2 add 0 0\n3 add 0 1\n4 add 1 1\n5 mul 0 0\n6 mul 0 1\n7 mul 1 1\nout 7 6 5 4 3 2\n")
}

func TestSimplifyAtTheLimits(t *testing.T) {
	source := rand.New(rand.NewSource(131))
	for _, g := range wrongGraphs() {
		if got := impl.Simplify(g); !isNoGraph(got) {
			t.Errorf("Simplify of what is no graph is %+v", got)
		}
	}
	if got := impl.Simplify(impl.Graph{}); !isNoGraph(got) {
		t.Errorf("Simplify of nothing is %+v", got)
	}
	kinds := []func(number int) impl.Node{
		func(number int) impl.Node { return argsNode(impl.OpInv, number-1) }, func(number int) impl.Node { return argsNode(impl.OpNeg, number-1) }, func(number int) impl.Node { return argsNode(impl.OpNeg, 0) },
		func(number int) impl.Node { return argsNode(impl.OpAdd, number-1, number-1) }, func(number int) impl.Node { return argsNode(impl.OpMul, number-1, 0) }, func(number int) impl.Node { return inputNode(2) }, func(number int) impl.Node { return constNode(ints(2), number, 0) },
		func(number int) impl.Node { return dimsNode(impl.OpReshape, number-1, ints(1, 2)[number%2:]...) }, func(number int) impl.Node { return intsNode(impl.OpSlice, number-1, 0, 0, 2, 1) },
	}
	for at, kind := range kinds {
		g := graphOf(nil, inputNode(2))
		for len(g.Nodes) < 200 {
			g.Nodes = append(g.Nodes, kind(len(g.Nodes)))
		}
		g.Outs = append(noughts(38), 198, 199)
		want, _ := wantSimplify(g)
		if got := impl.Simplify(g); !sameGraph(got, want) || !sameGraph(impl.Simplify(got), got) || !impl.GraphOk(got) {
			t.Errorf("kind %d at MaxNodes is\n%s", at, wantText(got))
		}
		inputs := inputsFor(source, g)
		if !sameTensors(impl.Eval(g, inputs), impl.Eval(impl.Simplify(g), inputs)) || impl.Cost(impl.Simplify(g)) > impl.Cost(g) {
			t.Errorf("kind %d at MaxNodes gives another", at)
		}
		g.Nodes = append(g.Nodes, inputNode(2))
		if got := impl.Simplify(g); !isNoGraph(got) {
			t.Errorf("kind %d past MaxNodes is\n%s", at, wantText(got))
		}
	}
	stay := graphOf(ints(199), inputNode(2))
	for len(stay.Nodes) < 200 {
		stay.Nodes = append(stay.Nodes, argsNode(impl.OpInv, len(stay.Nodes)-1))
	}
	if got := impl.Simplify(stay); !sameGraph(got, stay) {
		t.Errorf("a graph of MaxNodes does not stay: %s", wantText(got))
	}
	if got := impl.Simplify(graphOf(ints(199), manyNodes(200)...)); wantText(got) != "0 input [2]\n1 neg 0\nout 1\n" {
		t.Errorf("199 times neg is\n%s", wantText(got))
	}
}

func TestSimplifyOfSpoiltGraphs(t *testing.T) {
	source := rand.New(rand.NewSource(132))
	good, wrong := 0, 0
	for _, g := range rewriteGraphs(300, 133) {
		for range 6 {
			spoilt := spoiltGraph(source, g)
			want, _ := wantSimplify(spoilt)
			if got := impl.Simplify(spoilt); !sameGraph(got, want) {
				t.Fatalf("Simplify(%+v) is\n%s, not\n%s", spoilt, wantText(got), wantText(want))
			}
			if impl.GraphOk(spoilt) {
				good++
			} else {
				wrong++
			}
		}
	}
	if good < 100 || wrong < 500 {
		t.Errorf("%d are right, %d are not", good, wrong)
	}
}

// wantMerge says what the document says of Merge.
func wantMerge(g impl.Graph, h impl.Graph) (impl.Graph, bool) {
	given, first := wantAll(g, nil)
	wanted, second := wantAll(h, nil)
	come := wantInputs(h)
	if !first || !second || len(come) != len(g.Outs) {
		return impl.Graph{}, false
	}
	stands := map[int]int{}
	for at, number := range come {
		if !slices.Equal(given[g.Outs[at]].Dims, wanted[number].Dims) {
			return impl.Graph{}, false
		}
		stands[number] = g.Outs[at]
	}
	merged := impl.Graph{Nodes: copiedGraph(g).Nodes}
	for number, n := range copiedGraph(h).Nodes {
		if n.Op == 1 {
			continue
		}
		for at, arg := range n.Args {
			n.Args[at] = stands[arg]
		}
		stands[number] = len(merged.Nodes)
		merged.Nodes = append(merged.Nodes, n)
	}
	for _, out := range h.Outs {
		merged.Outs = append(merged.Outs, stands[out])
	}
	if len(merged.Nodes) > 200 {
		return impl.Graph{}, false
	}
	return merged, true
}

// checkMerge tells whether there is such a graph.
func checkMerge(t *testing.T, g impl.Graph, h impl.Graph) (impl.Graph, bool) {
	t.Helper()
	got, ok := impl.Merge(g, h)
	want, there := wantMerge(g, h)
	if ok != there || !sameGraph(got, want) {
		t.Fatalf("Merge of\n%+v\nand\n%+v\nis %v\n%snot %v\n%s", g, h, ok, wantText(got), there, wantText(want))
	}
	if !impl.GraphOk(got) {
		t.Fatalf("Merge of\n%sand\n%sis not GraphOk", wantText(g), wantText(h))
	}
	return got, ok
}

// feeding gives the graph Outs, and nodes behind its own where it has none of the
// shape, so that they can stand for the inputs of h.
func feeding(source *rand.Rand, g impl.Graph, h impl.Graph) impl.Graph {
	g = graphOf(nil, copiedGraph(g).Nodes...)
	if len(g.Nodes) == 0 {
		g.Nodes = append(g.Nodes, inputNode())
	}
	for _, number := range wantInputs(h) {
		dims, shapes, fitting := h.Nodes[number].Dims, impl.Shapes(g), []int{}
		for other, shape := range shapes {
			if slices.Equal(shape, dims) {
				fitting = append(fitting, other)
			}
		}
		if len(fitting) > 0 && source.Intn(4) > 0 {
			g.Outs = append(g.Outs, fitting[source.Intn(len(fitting))])
			continue
		}
		any := source.Intn(len(g.Nodes))
		g.Nodes = append(g.Nodes, formNode("abcdef"[:len(shapes[any])]+"->", any), dimsNode(impl.OpSpread, len(g.Nodes), dims...))
		g.Outs = append(g.Outs, len(g.Nodes)-1)
	}
	return g
}

// P27: values, slopes and what is pulled go through the merged graph as through
// both.
func TestMergeGoesThroughBoth(t *testing.T) {
	source := rand.New(rand.NewSource(134))
	graphs := slices.Concat(someGraphs(200, 135), rewriteGraphs(200, 136), slopeGraphs())
	moved, twice := 0, 0
	for _, h := range graphs {
		g := feeding(source, graphs[source.Intn(len(graphs))], h)
		merged, ok := checkMerge(t, g, h)
		if !ok {
			t.Fatalf("\n%sand\n%sare not merged", wantText(g), wantText(h))
		}
		inputs, moves := inputsFor(source, g), inputsFor(source, g)
		between := impl.Eval(g, inputs)
		if got, want := impl.Eval(merged, inputs), impl.Eval(h, between); !sameTensors(got, want) {
			t.Fatalf("Merge of\n%sand\n%sgives %v, not %v", wantText(g), wantText(h), got, want)
		}
		values, slopes := impl.Push(merged, inputs, moves)
		wantValues, wantSlopes := impl.Push(h, between, slopesThrough(g, inputs, moves))
		if !sameTensors(values, wantValues) || !sameTensors(slopes, wantSlopes) {
			t.Fatalf("the slopes of the Merge of\n%sand\n%sare %v, not %v", wantText(g), wantText(h), slopes, wantSlopes)
		}
		seeds := seedsFor(source, h)
		pulled := impl.Pull(merged, inputs, seeds)
		if want := impl.Pull(g, inputs, impl.Pull(h, between, seeds)); !sameTensors(pulled, want) {
			t.Fatalf("through the Merge of\n%sand\n%s%v is pulled, not %v", wantText(g), wantText(h), pulled, want)
		}
		if slices.ContainsFunc(pulled, func(p impl.Tensor) bool { return slices.Max(p.Data) > 0 }) {
			moved++
		}
		if slices.Sort(g.Outs); len(slices.Compact(g.Outs)) < len(between) {
			twice++
		}
	}
	if moved < 100 || twice < 30 {
		t.Errorf("%d are pulled, of %d an Out stands for two", moved, twice)
	}
}

func slopesThrough(g impl.Graph, inputs []impl.Tensor, moves []impl.Tensor) []impl.Tensor {
	_, slopes := impl.Push(g, inputs, moves)
	return slopes
}

// Some of these nearly fit together.
func TestMergeAgainstWords(t *testing.T) {
	source := rand.New(rand.NewSource(137))
	graphs := slices.Concat(someGraphs(150, 138), edgeGraphs(), rewriteGraphs(60, 139), wrongGraphs())
	there, not := 0, 0
	for _, g := range graphs {
		for range 20 {
			first, h := g, graphs[source.Intn(len(graphs))]
			if source.Intn(2) == 0 && len(g.Nodes) < 100 && impl.GraphOk(g) && impl.GraphOk(h) {
				first = spoiltGraph(source, feeding(source, g, h))
			}
			if _, ok := checkMerge(t, first, h); ok {
				there++
			} else {
				not++
			}
		}
	}
	if there < 200 || not < 1000 {
		t.Errorf("%d are merged, %d not", there, not)
	}
}

// A mergeRow has the texts of two graphs, and the text of the merged one, which
// is empty when there is none.
type mergeRow struct{ first, second, want string }

func TestMergeRows(t *testing.T) {
	square := "0 input [2]\n1 mul 0 0\nout 1\n"
	sum := "0 input [2]\n1 contract 0 a->\nout 1\n"
	difference := "0 input [2]\n1 input [2]\n2 sub 0 1\nout 2\n"
	rows := []mergeRow{
		{square, sum, "0 input [2]\n1 mul 0 0\n2 contract 1 a->\nout 2\n"},
		{square, square, "0 input [2]\n1 mul 0 0\n2 mul 1 1\nout 2\n"},
		{sum, square, ""}, {square, difference, ""}, {difference, difference, ""},
		{difference, square, "0 input [2]\n1 input [2]\n2 sub 0 1\n3 mul 2 2\nout 3\n"},
		// As many Outs as Inputs, one more, one fewer.
		{"0 input [2]\n1 neg 0\nout 0 1\n", difference, "0 input [2]\n1 neg 0\n2 sub 0 1\nout 2\n"},
		{"0 input [2]\n1 neg 0\nout 1 0\n", difference, "0 input [2]\n1 neg 0\n2 sub 1 0\nout 2\n"},
		{"0 input [2]\n1 neg 0\nout 0 1 1\n", difference, ""}, {"0 input [2]\n1 neg 0\nout 0\n", difference, ""}, {"0 input [2]\n1 neg 0\nout\n", difference, ""}, {"0 input [2]\nout 0 0\n", square, ""},
		// One Out stands for two.
		{"0 input [2]\n1 neg 0\nout 1 1\n", difference, "0 input [2]\n1 neg 0\n2 sub 1 1\nout 2\n"},
		// Shapes that are others, though of one size.
		{"0 input [2 1]\nout 0\n", square, ""}, {"0 input [1 2]\nout 0\n", square, ""}, {"0 input [1]\nout 0\n", square, ""}, {"0 input []\nout 0\n", square, ""}, {"0 input [3]\nout 0\n", square, ""},
		{"0 input []\nout 0\n", "0 input [1]\nout 0\n", ""}, {"0 input [1]\nout 0\n", "0 input []\nout 0\n", ""}, {"0 input [2]\n1 input [3]\nout 0 1\n", "0 input [3]\n1 input [2]\nout 0\n", ""},
		{"0 input [2]\n1 input [3]\nout 1 0\n", "0 input [3]\n1 input [2]\nout 0\n", "0 input [2]\n1 input [3]\nout 1\n"},
		{"0 input [2]\n1 input [3]\nout 0 0\n", "0 input [2]\n1 input [3]\nout 0\n", ""},
		// What has no inputs, and no Outs.
		{"0 input [2]\n1 neg 0\nout\n", "0 const [] 5\n1 neg 0\nout 1 0\n", "0 input [2]\n1 neg 0\n2 const [] 5\n3 neg 2\nout 3 2\n"},
		{square, "0 const [] 5\nout 0\n", ""}, {square, "out\n", ""}, {"out\n", square, ""},
		{"out\n", "out\n", "out\n"}, {"out\n", "0 const [] 5\nout 0 0\n", "0 const [] 5\nout 0 0\n"}, {"0 input [2]\nout\n", "out\n", "0 input [2]\nout\n"},
		// Inputs among the nodes of the second, some of them Outs, some not used.
		{"0 input [2]\n1 input []\n2 neg 1\nout 0 2 1\n", "0 const [2] 7 8\n1 input [2]\n2 mul 0 1\n3 input []\n4 neg 3\n5 input []\n6 spread 4 [2]\n7 add 6 2\nout 7 5 3 1 4\n", "0 input [2]\n1 input []\n2 neg 1\n3 const [2] 7 8\n4 mul 3 0\n5 neg 2\n6 spread 5 [2]\n7 add 6 4\nout 7 1 2 0 5\n"},
		{square, "0 input [2]\nout 0 0\n", "0 input [2]\n1 mul 0 0\nout 1 1\n"},
		{square, "0 input [2]\nout\n", "0 input [2]\n1 mul 0 0\nout\n"},
		// Nothing is made simpler.
		{"0 input [2]\n1 const [2] 0 0\n2 add 1 0\n3 neg 0\nout 2\n", "0 input [2]\n1 add 0 0\n2 reshape 0 [2]\n3 const [2] 0 0\nout 1\n", "0 input [2]\n1 const [2] 0 0\n2 add 1 0\n3 neg 0\n4 add 2 2\n5 reshape 2 [2]\n6 const [2] 0 0\nout 4\n"},
		{"0 const [2] 3 4\nout 0\n", "0 input [2]\n1 pad 0 (0 1 1 1)\n2 slice 1 (0 1 2 2)\n3 gather 2 (0 1 0)\n4 contract 3 0 a,b->ba\nout 4\n", "0 const [2] 3 4\n1 pad 0 (0 1 1 1)\n2 slice 1 (0 1 2 2)\n3 gather 2 (0 1 0)\n4 contract 3 0 a,b->ba\nout 4\n"},
	}
	for _, row := range rows {
		g, first := impl.ReadGraph(row.first)
		h, second := impl.ReadGraph(row.second)
		if !first || !second {
			t.Fatalf("%q or %q is no graph", row.first, row.second)
		}
		got, ok := checkMerge(t, g, h)
		if ok != (row.want != "") || ok && wantText(got) != row.want || !ok && !isNoGraph(got) {
			t.Errorf("Merge of\n%sand\n%sis %v\n%snot\n%s", row.first, row.second, ok, wantText(got), row.want)
		}
	}
}

func TestMergeOfWrongGraphs(t *testing.T) {
	plain := graphOf(ints(0), inputNode(2))
	for _, wrong := range wrongGraphs() {
		for _, good := range []impl.Graph{plain, {}, graphOf(nil, constNode(nil, 1)), graphOf(ints(0, 0), inputNode(2)), wrong} {
			for _, pair := range [][2]impl.Graph{{wrong, good}, {good, wrong}} {
				if got, ok := impl.Merge(pair[0], pair[1]); ok || !isNoGraph(got) {
					t.Errorf("Merge(%+v, %+v) is %v", pair[0], pair[1], got)
				}
			}
		}
	}
}

func TestMergeAtMaxNodes(t *testing.T) {
	chain := func(count int) impl.Graph { return graphOf(ints(count-1), manyNodes(count)...) }
	for _, counts := range [][2]int{{100, 101}, {199, 2}, {200, 1}, {1, 200}, {2, 199}} {
		got, ok := checkMerge(t, chain(counts[0]), chain(counts[1]))
		if !ok || len(got.Nodes) != 200 || !slices.Equal(got.Outs, ints(199)) {
			t.Errorf("chains of %v come to %d nodes", counts, len(got.Nodes))
		}
	}
	for _, counts := range [][2]int{{100, 102}, {101, 101}, {199, 3}, {200, 2}, {2, 200}, {200, 200}} {
		if got, ok := checkMerge(t, chain(counts[0]), chain(counts[1])); ok || !isNoGraph(got) {
			t.Errorf("chains of %v come to %d nodes", counts, len(got.Nodes))
		}
	}
	// As many inputs as a graph may have Outs.
	wide := graphOf(noughts(40), inputNode(2))
	for range 40 {
		wide.Nodes = append(wide.Nodes, inputNode(2))
	}
	many := graphOf(firstNumbers(40), wide.Nodes[:40]...)
	if got, ok := checkMerge(t, wide, many); !ok || !slices.Equal(got.Outs, noughts(40)) {
		t.Errorf("40 Outs for 40 inputs: %v", ok)
	}
	if _, ok := checkMerge(t, wide, wide); ok {
		t.Error("40 Outs for 41 inputs")
	}
}

// wantBind says what the document says of Bind.
func wantBind(g impl.Graph, k int, a impl.Tensor) (impl.Graph, bool) {
	if _, ok := wantAll(g, nil); !ok || !slices.Contains(wantInputs(g), k) || !wantTensorOk(a) || !slices.Equal(a.Dims, g.Nodes[k].Dims) {
		return impl.Graph{}, false
	}
	g = copiedGraph(g)
	g.Nodes[k] = constNode(a.Dims, a.Data...)
	return g, true
}

func checkBind(t *testing.T, g impl.Graph, k int, a impl.Tensor) bool {
	t.Helper()
	got, ok := impl.Bind(g, k, a)
	want, there := wantBind(g, k, a)
	if ok != there || !sameGraph(got, want) {
		t.Fatalf("Bind(%+v, %d, %s) is %v\n%snot %v\n%s", g, k, brief(a), ok, wantText(got), there, wantText(want))
	}
	return ok
}

// P28: one input after the other is bound, until none is left.
func TestBindGivesTheSame(t *testing.T) {
	source := rand.New(rand.NewSource(140))
	count := 0
	for _, g := range slices.Concat(goodGraphs(), rewriteGraphs(150, 141), slopeGraphs()) {
		inputs := inputsFor(source, g)
		want := impl.Eval(g, inputs)
		for left := g; len(inputs) > 0; count++ {
			at := source.Intn(len(inputs))
			k := wantInputs(left)[at]
			if !checkBind(t, left, k, inputs[at]) {
				t.Fatalf("Bind of\n%sat %d is refused", wantText(left), k)
			}
			left, _ = impl.Bind(left, k, inputs[at])
			inputs = slices.Delete(slices.Clone(inputs), at, at+1)
			if got := impl.Eval(left, inputs); !impl.GraphOk(left) || !sameTensors(got, want) {
				t.Fatalf("with an input bound,\n%sgives %v, not %v", wantText(left), got, want)
			}
			if simple := impl.Simplify(left); len(inputs) == 0 && impl.Cost(simple) != 0 {
				t.Fatalf("with all inputs bound,\n%sis\n%s", wantText(left), wantText(simple))
			}
		}
	}
	if count < 500 {
		t.Errorf("%d inputs were bound", count)
	}
}

func TestBindOfWrongArguments(t *testing.T) {
	g := graphOf(ints(4, 1), inputNode(2, 3), constNode(ints(2, 3), 1, 2, 3, 4, 5, 6), inputNode(), inputNode(1), argsNode(impl.OpNeg, 0))
	six, one, row := tensorOf(ints(2, 3), 6, 5, 4, 3, 2, 1), tensorOf(nil, 7), tensorOf(ints(1), 7)
	right := map[int]impl.Tensor{0: six, 2: one, 3: row}
	numbers := ints(-1, 0, 1, 2, 3, 4, 5, 6, 200, -200, math.MinInt, math.MaxInt, 1<<32, 1<<32+2)
	given := append(wrongTensors(), six, one, row, tensorOf(ints(3, 2), 1, 2, 3, 4, 5, 6), tensorOf(ints(6), 1, 2, 3, 4, 5, 6), tensorOf(ints(2, 3, 1), 1, 2, 3, 4, 5, 6), tensorOf(ints(1, 1), 7), tensorOf(ints(2), 7, 8), tensorOf(nil, impl.Prime-1))
	for _, k := range numbers {
		for _, a := range given {
			want, there := right[k]
			there = there && wantTensorOk(a) && slices.Equal(want.Dims, a.Dims)
			if checkBind(t, g, k, a) != there {
				t.Errorf("Bind at %d of %s is %v", k, brief(a), !there)
			}
		}
	}
	if got, ok := impl.Bind(g, 2, one); !ok || wantText(got) != "0 input [2 3]\n1 const [2 3] 1 2 3 4 5 6\n2 const [] 7\n3 input [1]\n4 neg 0\nout 4 1\n" {
		t.Errorf("Bind at 2 is\n%s", wantText(got))
	}
	if got, ok := impl.Bind(g, 3, row); !ok || wantText(got) != "0 input [2 3]\n1 const [2 3] 1 2 3 4 5 6\n2 input []\n3 const [1] 7\n4 neg 0\nout 4 1\n" {
		t.Errorf("Bind at 3 is\n%s", wantText(got))
	}
	for _, wrong := range append(wrongGraphs(), impl.Graph{}) {
		for _, k := range numbers {
			for _, a := range tensors(six, one, tensorOf(ints(2), 1, 2), impl.Tensor{}) {
				if got, ok := impl.Bind(wrong, k, a); ok || !isNoGraph(got) {
					t.Errorf("Bind(%+v, %d) is %v", wrong, k, got)
				}
			}
		}
	}
	full := graphOf(ints(199), manyNodes(200)...)
	if !checkBind(t, full, 0, tensorOf(ints(2), 1, 2)) || checkBind(t, full, 199, tensorOf(ints(2), 1, 2)) {
		t.Error("Bind at MaxNodes")
	}
}

func TestRewritingListsAreLeftAlone(t *testing.T) {
	source := rand.New(rand.NewSource(142))
	graphs := slices.Concat(rewriteGraphs(80, 143), someGraphs(40, 144), edgeGraphs()[5:])
	for _, text := range []string{
		"0 input [3]\n1 reshape 0 [3 1]\n2 reshape 1 [1 3]\n3 reshape 1 [1 3 1]\n4 reshape 1 [3]\n5 reshape 1 [1 3]\nout 0 1 2 3 4 5\n",
		"0 input [5]\n1 slice 0 (0 0 3 2)\n2 slice 1 (0 1 2 1)\n3 slice 1 (0 1 1 2)\n4 slice 1 (0 0 3 1)\nout 1 2 3 4 4\n",
		"0 const [2] 1 2\n1 const [2] 1 2\n2 reshape 0 [2 1]\n3 reshape 1 [2 1]\n4 spread 0 [2]\n5 contract 0 a->a\n6 window 0 (0 1 1)\nout 0 1 2 3 4 5 6\n",
	} {
		g, ok := impl.ReadGraph(text)
		if !ok {
			t.Fatalf("%q is no graph", text)
		}
		graphs = append(graphs, g)
	}
	for _, h := range graphs {
		checkAlone(t, "Simplify", listsOf(h, nil), func(lists [][]int) [][]int {
			made, _ := withLists(h, nil, lists)
			return listsOf(impl.Simplify(made), nil)
		})
		g := feeding(source, graphs[source.Intn(len(graphs))], h)
		count := len(listsOf(g, nil))
		checkAlone(t, "Merge", append(listsOf(g, nil), listsOf(h, nil)...), func(lists [][]int) [][]int {
			first, _ := withLists(g, nil, lists[:count])
			second, _ := withLists(h, nil, lists[count:])
			merged, _ := impl.Merge(first, second)
			return listsOf(merged, nil)
		})
		for _, k := range wantInputs(h) {
			bound := tensors(randomTensor(source, h.Nodes[k].Dims))
			checkAlone(t, "Bind", listsOf(h, bound), func(lists [][]int) [][]int {
				made, ts := withLists(h, bound, lists)
				got, _ := impl.Bind(made, k, ts[0])
				return listsOf(got, nil)
			})
		}
	}
}

// The lists of nodes are left alone, too, with the room behind them, and are not
// those of the answer.
func TestRewritingLeavesGraphsAlone(t *testing.T) {
	source := rand.New(rand.NewSource(145))
	graphs := append(rewriteGraphs(80, 146), edgeGraphs()[5:]...)
	withRoom := func(g impl.Graph) impl.Graph {
		g.Nodes = append(slices.Clone(g.Nodes), slices.Repeat([]impl.Node{{Op: 77, Form: "mark"}}, 60)...)[:len(g.Nodes)]
		return g
	}
	whole := func(g impl.Graph) impl.Graph { return impl.Graph{Nodes: g.Nodes[:cap(g.Nodes)], Outs: g.Outs} }
	for _, h := range graphs {
		g := withRoom(feeding(source, graphs[source.Intn(len(graphs))], h))
		h = withRoom(h)
		beforeFirst, beforeSecond := copiedGraph(whole(g)), copiedGraph(whole(h))
		merged, _ := impl.Merge(g, h)
		answers := []impl.Graph{impl.Simplify(h), merged}
		for _, k := range wantInputs(h) {
			bound, _ := impl.Bind(h, k, randomTensor(source, h.Nodes[k].Dims))
			answers = append(answers, bound)
		}
		for _, answer := range answers {
			nodes := answer.Nodes[:cap(answer.Nodes)]
			for number := range nodes {
				nodes[number].Op = -1
			}
		}
		if !sameGraph(beforeFirst, whole(g)) || !sameGraph(beforeSecond, whole(h)) {
			t.Fatalf("%s or\n%s has changed", wantText(g), wantText(h))
		}
		first, second := impl.Simplify(h), impl.Simplify(h)
		if !reflect.DeepEqual(first, second) {
			t.Fatalf("Simplify of\n%sis once\n%s, once\n%s", wantText(h), wantText(first), wantText(second))
		}
	}
}

func TestRoomBehindRewritingListsIsNotRead(t *testing.T) {
	nodes := []impl.Node{inputNode(2), argsNode(impl.OpNeg, 0), inputNode(3)}
	data := ints(1, 2, 3)
	if got := impl.Simplify(graphOf(ints(1, 2)[:1], nodes[:2]...)); wantText(got) != "0 input [2]\n1 neg 0\nout 1\n" {
		t.Errorf("Simplify has read behind a list:\n%s", wantText(got))
	}
	if got := impl.Simplify(graphOf(ints(2), nodes[:2]...)); !isNoGraph(got) {
		t.Error("Simplify has read behind the nodes")
	}
	if _, ok := impl.Merge(graphOf(ints(0, 0)[:1], nodes[:1]...), graphOf(nil, nodes[:2]...)); !ok {
		t.Error("Merge has read behind a list")
	}
	if _, ok := impl.Merge(graphOf(ints(0), nodes[:1]...), graphOf(nil, nodes...)); ok {
		t.Error("Merge of an Out and two inputs")
	}
	if _, ok := impl.Bind(graphOf(nil, nodes[:2]...), 2, tensorOf(ints(3), 1, 2, 3)); ok {
		t.Error("Bind has read behind the nodes")
	}
	if got, ok := impl.Bind(graphOf(nil, nodes...), 0, tensorOf(ints(2, 3)[:1], data[:2]...)); !ok || wantText(got) != "0 const [2] 1 2\n1 neg 0\n2 input [3]\nout\n" {
		t.Errorf("Bind has read behind a tensor:\n%s", wantText(got))
	}
	if _, ok := impl.Bind(graphOf(nil, nodes...), 2, tensorOf(ints(3), data[:2]...)); ok {
		t.Error("Bind has read behind Data")
	}
}

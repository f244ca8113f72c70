package tests

import (
	"math"
	"math/rand"
	"reflect"
	"slices"
	"strconv"
	"strings"
	"testing"

	"loop.example/g00033/impl"
)

// A wantedGradient puts nodes behind those of a graph by the document's words;
// slots has D of each of the graph's own nodes, -1 where there is none.
type wantedGradient struct {
	nodes  []impl.Node
	values []impl.Tensor
	slots  []int
}

func (w *wantedGradient) behind(n impl.Node) int {
	w.nodes = append(w.nodes, n)
	return len(w.nodes) - 1
}

func (w *wantedGradient) filled(dims []int, x int) int {
	filled := built(dims, func([]int) int { return x })
	return w.behind(constNode(filled.Dims, filled.Data...))
}

// wantGradGraph says what the document says of GradGraph.
func wantGradGraph(g impl.Graph, out int, wrt []int) (impl.Graph, bool) {
	values, ok := wantAll(g, nil)
	is := func(number int) bool { return number >= 0 && number < len(g.Nodes) }
	if !ok || !is(out) || len(values[out].Dims) != 0 || len(wrt) > 40 {
		return impl.Graph{}, false
	}
	w := &wantedGradient{nodes: slices.Clone(g.Nodes), values: values}
	for range g.Nodes {
		w.slots = append(w.slots, -1)
	}
	w.slots[out] = w.filled(nil, 1)
	for k := out; k >= 0; k-- {
		if w.slots[k] >= 0 && !w.through(g, k) {
			return impl.Graph{}, false
		}
	}
	outs := []int{}
	for _, number := range wrt {
		if !is(number) {
			return impl.Graph{}, false
		}
		if w.slots[number] >= 0 {
			outs = append(outs, w.slots[number])
		} else {
			outs = append(outs, w.filled(values[number].Dims, 0))
		}
	}
	made := impl.Graph{Nodes: w.nodes, Outs: outs}
	if _, ok := wantAll(made, nil); !ok {
		return impl.Graph{}, false
	}
	return made, true
}

func (w *wantedGradient) through(g impl.Graph, k int) bool {
	for at, arg := range g.Nodes[k].Args {
		if g.Nodes[arg].Op == 2 {
			continue
		}
		adds, there := w.adds(g.Nodes[k], k, at)
		if !there {
			return false
		}
		switch {
		case adds < 0:
		case w.slots[arg] < 0:
			w.slots[arg] = adds
		default:
			w.slots[arg] = w.behind(argsNode(3, w.slots[arg], adds))
		}
	}
	return true
}

// adds gives the number of what node k adds to its Arg at, -1 for nothing; false
// when there is no such graph.
func (w *wantedGradient) adds(n impl.Node, k int, at int) (int, bool) {
	d, arg := w.slots[k], n.Args[at]
	shape, i := w.values[arg].Dims, n.Ints
	switch n.Op {
	case 3:
		return d, true
	case 4:
		if at == 1 {
			return w.behind(argsNode(6, d)), true
		}
		return d, true
	case 5:
		return w.behind(argsNode(5, d, n.Args[1-at])), true
	case 6:
		return w.behind(argsNode(6, d)), true
	case 7:
		first := w.behind(argsNode(5, k, k))
		second := w.behind(argsNode(5, d, first))
		return w.behind(argsNode(6, second)), true
	case 8, 10:
		return -1, true
	case 9:
		return w.behind(argsNode(5, d, w.behind(argsNode(8, arg)))), true
	case 11:
		return w.addsOfContract(n, d, at)
	case 12:
		return w.addsOfSpread(w.values[k].Dims, shape, d), true
	case 13:
		return w.behind(dimsNode(13, d, shape...)), true
	case 14:
		taken := i[1]
		for count := 1; count < i[2]; count++ {
			taken += i[3]
		}
		return w.behind(intsNode(15, d, i[0], i[1], shape[i[0]]-taken-1, i[3]-1)), true
	case 15:
		return w.behind(intsNode(14, d, i[0], i[1], shape[i[0]], i[3]+1)), true
	case 16:
		return w.behind(intsNode(17, d, append(ints(i[0], shape[i[0]]), i[1:]...)...)), true
	case 17:
		return w.behind(intsNode(16, d, append(ints(i[0]), i[2:]...)...)), true
	case 18:
		return w.behind(intsNode(19, d, i[0], i[2], shape[i[0]])), true
	}
	return w.behind(intsNode(18, d, i[0], shape[len(shape)-1], i[1])), true
}

func (w *wantedGradient) addsOfContract(n impl.Node, d int, at int) (int, bool) {
	groups, outcome, _ := wantParts(n.Form)
	own := groups[at]
	form, args := outcome, ints(d)
	for other, group := range groups {
		if other != at {
			form, args = form+","+group, append(args, n.Args[other])
		}
	}
	lone := ""
	for axis, letter := range strings.Split(own, "") {
		if strings.Count(own, letter) > 1 {
			return 0, false
		}
		if !strings.Contains(form, letter) {
			lone += "," + letter
			args = append(args, w.filled(ints(w.values[n.Args[at]].Dims[axis]), 1))
		}
	}
	return w.behind(formNode(form+lone+"->"+own, args...)), len(args) <= 6
}

func (w *wantedGradient) addsOfSpread(long []int, short []int, d int) int {
	letters, kept := "abcdef"[:len(long)], ""
	for behind := 1; behind <= len(short); behind++ {
		if short[len(short)-behind] == long[len(long)-behind] {
			at := len(letters) - behind
			kept = letters[at:at+1] + kept
		}
	}
	return w.behind(dimsNode(13, w.behind(formNode(letters+"->"+kept, d)), short...))
}

// checkGradGraph tells whether there is a graph.
func checkGradGraph(t *testing.T, g impl.Graph, out int, wrt []int) bool {
	t.Helper()
	got, ok := impl.GradGraph(g, out, wrt)
	want, there := wantGradGraph(g, out, wrt)
	if ok != there || !sameGraph(got, want) {
		t.Fatalf("GradGraph(%+v, %d, %v) = %v,\n%s, not %v,\n%s", g, out, wrt, ok, wantText(got), there, wantText(want))
	}
	if ok && !impl.GraphOk(got) {
		t.Fatalf("GradGraph(%s, %d, %v) is not GraphOk", wantText(g), out, wrt)
	}
	return ok
}

// summed puts a node behind the graph that adds up all numbers of another one.
func summed(g impl.Graph, number int) impl.Graph {
	rank := len(impl.Shapes(g)[number])
	g.Nodes = append(slices.Clone(g.Nodes), formNode("abcdef"[:rank]+"->", number))
	return g
}

// numbersOf are the numbers of all nodes.
func numbersOf(g impl.Graph) []int {
	numbers := []int{}
	for number := range g.Nodes {
		numbers = append(numbers, number)
	}
	return numbers
}

// gradGraphs are graphs of which the last node has one number: sums of what each
// Op gives, sums with a node behind the first, products of such, and of random
// graphs.
func gradGraphs(count int, seed int64) []impl.Graph {
	source := rand.New(rand.NewSource(seed))
	graphs := []impl.Graph{}
	for _, g := range append(slopeGraphs(), someGraphs(count, seed)...) {
		if len(g.Nodes) == 0 {
			continue
		}
		last := len(g.Nodes) - 1
		sum := summed(g, last)
		graphs = append(graphs, sum, summed(g, source.Intn(last+1)))
		square := graphOf(g.Outs, append(slices.Clone(sum.Nodes), argsNode(impl.OpMul, last+1, last+1))...)
		graphs = append(graphs, square)
	}
	return graphs
}

func TestGradGraphAgainstWords(t *testing.T) {
	source := rand.New(rand.NewSource(99))
	there, not := 0, 0
	for _, g := range gradGraphs(250, 100) {
		last := len(g.Nodes) - 1
		all := numbersOf(g)
		source.Shuffle(len(all), func(i int, j int) { all[i], all[j] = all[j], all[i] })
		for out := range g.Nodes {
			checkGradGraph(t, g, out, all[:source.Intn(len(all)+1)])
		}
		if checkGradGraph(t, g, last, append(all, all...)) {
			there++
		} else {
			not++
		}
	}
	if there < 500 || not < 30 {
		t.Errorf("%d have gradients, %d do not", there, not)
	}
}

// A gradRow has the lines of a graph without its Outs, the lines that come behind
// them, and the Outs.
type gradRow struct {
	lines  string
	out    int
	wrt    []int
	behind string
	outs   []int
}

func (r gradRow) graph(t *testing.T) impl.Graph {
	t.Helper()
	g, ok := impl.ReadGraph(r.lines + "out\n")
	if !ok {
		t.Fatalf("%s is no graph", r.lines)
	}
	return g
}

func (r gradRow) check(t *testing.T) {
	t.Helper()
	g := r.graph(t)
	want := r.lines + r.behind + "out"
	for _, number := range r.outs {
		want += " " + strconv.Itoa(number)
	}
	for _, outs := range [][]int{nil, {0}, {r.out, r.out}} {
		g.Outs = outs
		got, ok := impl.GradGraph(g, r.out, r.wrt)
		if !ok || wantText(got) != want+"\n" {
			t.Errorf("GradGraph(%s, %d, %v) =\n%s%v, not\n%s", r.lines, r.out, r.wrt, wantText(got), ok, want)
		}
	}
}

func TestGradGraphOfPairs(t *testing.T) {
	two := "0 input []\n1 input []\n"
	fixed := "0 input []\n1 const [] 7\n"
	rows := []gradRow{
		{two + "2 add 0 1\n", 2, ints(0, 1), "3 const [] 1\n", ints(3, 3)},
		{two + "2 add 1 1\n", 2, ints(1, 0), "3 const [] 1\n4 add 3 3\n5 const [] 0\n", ints(4, 5)},
		{fixed + "2 add 1 0\n", 2, ints(0), "3 const [] 1\n", ints(3)},
		{two + "2 sub 0 1\n", 2, ints(0, 1), "3 const [] 1\n4 neg 3\n", ints(3, 4)},
		{two + "2 sub 1 0\n", 2, ints(0, 1), "3 const [] 1\n4 neg 3\n", ints(4, 3)},
		{two + "2 sub 0 0\n", 2, ints(0), "3 const [] 1\n4 neg 3\n5 add 3 4\n", ints(5)},
		{fixed + "2 sub 0 1\n", 2, ints(0, 1), "3 const [] 1\n4 const [] 0\n", ints(3, 4)},
		{fixed + "2 sub 1 0\n", 2, ints(0, 1), "3 const [] 1\n4 neg 3\n5 const [] 0\n", ints(4, 5)},
		{two + "2 mul 0 1\n", 2, ints(0, 1), "3 const [] 1\n4 mul 3 1\n5 mul 3 0\n", ints(4, 5)},
		{two + "2 mul 1 0\n", 2, ints(0, 1), "3 const [] 1\n4 mul 3 0\n5 mul 3 1\n", ints(5, 4)},
		{two + "2 mul 0 0\n", 2, ints(0), "3 const [] 1\n4 mul 3 0\n5 mul 3 0\n6 add 4 5\n", ints(6)},
		{fixed + "2 mul 0 1\n", 2, ints(0, 1), "3 const [] 1\n4 mul 3 1\n5 const [] 0\n", ints(4, 5)},
		{fixed + "2 mul 1 0\n", 2, ints(0, 1), "3 const [] 1\n4 mul 3 1\n5 const [] 0\n", ints(4, 5)},
		{fixed + "2 mul 1 1\n", 2, ints(0, 1, 2), "3 const [] 1\n4 const [] 0\n5 const [] 0\n", ints(4, 5, 3)},
	}
	for _, row := range rows {
		row.check(t)
	}
}

func TestGradGraphOfSingles(t *testing.T) {
	fixed := "0 const [] 7\n"
	one := "0 input []\n"
	rows := []gradRow{
		{one, 0, ints(0, 0), "1 const [] 1\n", ints(1, 1)},
		{fixed, 0, ints(0), "1 const [] 1\n", ints(1)},
		{one, 0, nil, "1 const [] 1\n", nil},
		{one + "1 neg 0\n", 1, ints(0, 1), "2 const [] 1\n3 neg 2\n", ints(3, 2)},
		{one + "1 inv 0\n", 1, ints(0), "2 const [] 1\n3 mul 1 1\n4 mul 2 3\n5 neg 4\n", ints(5)},
		{one + "1 step 0\n", 1, ints(0, 1), "2 const [] 1\n3 const [] 0\n", ints(3, 2)},
		{one + "1 relu 0\n", 1, ints(0), "2 const [] 1\n3 step 0\n4 mul 2 3\n", ints(4)},
		{one + "1 spread 0 []\n", 1, ints(0), "2 const [] 1\n3 contract 2 ->\n4 reshape 3 []\n", ints(4)},
		{one + "1 reshape 0 []\n", 1, ints(0), "2 const [] 1\n3 reshape 2 []\n", ints(3)},
		{"0 input [1 1]\n1 reshape 0 []\n", 1, ints(0), "2 const [] 1\n3 reshape 2 [1 1]\n", ints(3)},
		{one + "1 contract 0 ->\n", 1, ints(0), "2 const [] 1\n3 contract 2 ->\n", ints(3)},
		{fixed + "1 neg 0\n2 inv 1\n", 2, ints(0, 1), "3 const [] 1\n4 mul 2 2\n5 mul 3 4\n6 neg 5\n7 const [] 0\n", ints(7, 6)},
		{fixed + "1 step 0\n2 relu 1\n3 step 2\n", 3, ints(1, 2, 3), "4 const [] 1\n5 const [] 0\n6 const [] 0\n", ints(5, 6, 4)},
	}
	for _, op := range []string{"neg 0", "inv 0", "relu 0", "step 0", "spread 0 []", "reshape 0 []", "contract 0 ->"} {
		rows = append(rows, gradRow{fixed + "1 " + op + "\n", 1, ints(0, 1, 0), "2 const [] 1\n3 const [] 0\n4 const [] 0\n", ints(3, 2, 4)})
	}
	for _, row := range rows {
		row.check(t)
	}
}

func TestGradGraphOfContracts(t *testing.T) {
	matrices := "0 input [2 3]\n1 input [3 2]\n"
	five := "2 const [] 1\n3 const [1] 1\n4 const [2] 1 1\n5 const [1] 1\n6 const [3] 1 1 1\n7 const [1] 1\n"
	six := strings.Builder{}
	six.WriteString("2 const [] 1\n3 contract 2 0 0 0 0 0 ,a,a,a,a,a->a\n")
	for n := 4; n < 14; n += 2 {
		six.WriteString(strconv.Itoa(n) + " contract 2 0 0 0 0 0 ,a,a,a,a,a->a\n" + strconv.Itoa(n+1) + " add " + strconv.Itoa(n-1) + " " + strconv.Itoa(n) + "\n")
	}
	rows := []gradRow{
		{"0 input [2]\n1 contract 0 a->\n", 1, ints(0), "2 const [] 1\n3 const [2] 1 1\n4 contract 2 3 ,a->a\n", ints(4)},
		{"0 input [2]\n1 contract 0 0 q,q->\n", 1, ints(0), "2 const [] 1\n3 contract 2 0 ,q->q\n4 contract 2 0 ,q->q\n5 add 3 4\n", ints(5)},
		{"0 input [2]\n1 contract 0 0 a,b->\n", 1, ints(0), "2 const [] 1\n3 const [2] 1 1\n4 contract 2 0 3 ,b,a->a\n5 const [2] 1 1\n6 contract 2 0 5 ,a,b->b\n7 add 4 6\n", ints(7)},
		{matrices + "2 contract 0 1 ij,jk->\n", 2, ints(0, 1), "3 const [] 1\n4 const [2] 1 1\n5 contract 3 1 4 ,jk,i->ij\n6 const [2] 1 1\n7 contract 3 0 6 ,ij,k->jk\n", ints(5, 7)},
		{matrices + "2 contract 0 1 zb,ba->\n", 2, ints(0, 1), "3 const [] 1\n4 const [2] 1 1\n5 contract 3 1 4 ,ba,z->zb\n6 const [2] 1 1\n7 contract 3 0 6 ,zb,a->ba\n", ints(5, 7)},
		{
			matrices + "2 contract 0 1 ij,jk->ki\n3 contract 2 ab->\n", 3, ints(0, 1, 2),
			"4 const [] 1\n5 const [2] 1 1\n6 const [2] 1 1\n7 contract 4 5 6 ,a,b->ab\n8 contract 7 1 ki,jk->ij\n9 contract 7 0 ki,ij->jk\n", ints(8, 9, 7),
		},
		{
			"0 input [3 2]\n1 input []\n2 contract 1 0 1 ,ab,->b\n3 contract 2 c->\n", 3, ints(1, 0),
			"4 const [] 1\n5 const [2] 1 1\n6 contract 4 5 ,c->c\n7 contract 6 0 1 b,ab,->\n8 const [3] 1 1 1\n9 contract 6 1 1 8 b,,,a->ab\n10 contract 6 1 0 b,,ab->\n11 add 7 10\n", ints(11, 9),
		},
		{"0 input [2]\n1 const [2 2] 1 2 3 4\n2 contract 1 0 bb,a->\n", 2, ints(0, 1), "3 const [] 1\n4 const [2] 1 1\n5 contract 3 1 4 ,bb,a->a\n6 const [2 2] 0 0 0 0\n", ints(5, 6)},
		{"0 input [2]\n1 const [2 2] 1 2 3 4\n2 contract 0 1 a,aa->\n", 2, ints(0), "3 const [] 1\n4 contract 3 1 ,aa->a\n", ints(4)},
		{"0 input [1 2 1 3 1]\n1 contract 0 edcba->\n", 1, ints(0), five + "8 contract 2 3 4 5 6 7 ,e,d,c,b,a->edcba\n", ints(8)},
		{"0 input [2]\n1 contract 0 0 0 0 0 0 a,a,a,a,a,a->\n", 1, ints(0), six.String(), ints(13)},
		{"0 const [1 1 1 1 1 1] 5\n1 contract 0 abcdef->\n", 1, ints(1), "2 const [] 1\n", ints(2)},
		{"0 const [2 2] 1 2 3 4\n1 contract 0 aa->\n", 1, ints(1), "2 const [] 1\n", ints(2)},
		{"0 input [2]\n1 const [2] 5 6\n2 contract 1 0 1 0 1 1 a,a,b,b,a,b->\n", 2, ints(0), "3 const [] 1\n4 contract 3 1 1 0 1 1 ,a,b,b,a,b->a\n5 contract 3 1 0 1 1 1 ,a,a,b,a,b->b\n6 add 4 5\n", ints(6)},
	}
	for _, row := range rows {
		row.check(t)
	}
	refused := []string{
		"0 input [2 2]\n1 contract 0 aa->\n", "0 input [2 2]\n1 input [2]\n2 contract 1 0 b,aa->\n", "0 input [2 2 2]\n1 contract 0 aba->\n", "0 input [1 1 1 1 1 1]\n1 contract 0 abcdef->\n", "0 input [2]\n1 contract 0 0 0 0 0 0 a,a,a,a,a,b->\n",
		"0 input [2]\n1 const [2] 1 2\n2 contract 1 1 1 1 1 0 a,b,c,d,e,f->\n", "0 input [1 1 1 1]\n1 input []\n2 contract 0 1 1 abcd,,->\n", "0 input [2 2]\n1 const [2] 1 2\n2 contract 0 1 aa,a->\n",
	}
	for _, lines := range refused {
		g := gradRow{lines: lines}.graph(t)
		for _, wrt := range [][]int{nil, {0}, {len(g.Nodes) - 1}} {
			checkNoGradient(t, g, len(g.Nodes)-1, wrt)
		}
	}
}

// checkNoGradient holds the answers where there is no graph of the gradient; the
// inputs fit.
func checkNoGradient(t *testing.T, g impl.Graph, out int, wrt []int) {
	t.Helper()
	got, ok := impl.GradGraph(g, out, wrt)
	if ok || !isNoGraph(got) {
		t.Errorf("GradGraph(%+v, %d, %v) is %v, %v", g, out, wrt, got, ok)
	}
	inputs := []impl.Tensor{}
	for _, number := range wantInputs(g) {
		inputs = append(inputs, impl.Fill(g.Nodes[number].Dims, 3))
	}
	if got := impl.Gradient(g, out, wrt, inputs); len(got) > 0 {
		t.Errorf("Gradient(%+v, %d, %v) is %v", g, out, wrt, got)
	}
	if len(wrt) != 1 {
		return
	}
	for _, a := range append(wantInputs(g), wrt[0]) {
		if got := impl.Bend(g, out, a, wrt[0], inputs); !isNoTensor(got) {
			t.Errorf("Bend(%+v, %d, %d, %d) is %v", g, out, a, wrt[0], got)
		}
	}
}

// Each row has a node 1 of one Op behind node 0; node 2 adds up its numbers, and
// ahead of what comes stands what that one adds.
func TestGradGraphOfMoves(t *testing.T) {
	ones := func(dims ...int) (string, int) {
		text, args, letters, form := "3 const [] 1\n", "", "abcdef"[:len(dims)], ""
		number := 4
		for axis, length := range dims {
			text += strconv.Itoa(number) + " const [" + strconv.Itoa(length) + "]" + strings.Repeat(" 1", length) + "\n"
			args += " " + strconv.Itoa(number)
			form += "," + letters[axis:axis+1]
			number++
		}
		return text + strconv.Itoa(number) + " contract 3" + args + " " + form + "->" + letters + "\n", number
	}
	cases := []struct {
		input string
		node  string
		shape []int
		moved []string
	}{
		{"[]", "spread 0 [2 3]", ints(2, 3), []string{"contract D ab->", "reshape D []"}},
		{"[3]", "spread 0 [3]", ints(3), []string{"contract D a->a", "reshape D [3]"}},
		{"[3]", "spread 0 [2 3]", ints(2, 3), []string{"contract D ab->b", "reshape D [3]"}},
		{"[1]", "spread 0 [2 1]", ints(2, 1), []string{"contract D ab->b", "reshape D [1]"}},
		{"[1]", "spread 0 [1 2]", ints(1, 2), []string{"contract D ab->", "reshape D [1]"}},
		{"[2]", "spread 0 [2 1 2]", ints(2, 1, 2), []string{"contract D abc->c", "reshape D [2]"}},
		{"[1 3]", "spread 0 [2 2 3]", ints(2, 2, 3), []string{"contract D abc->c", "reshape D [1 3]"}},
		{"[3 1]", "spread 0 [2 3 1]", ints(2, 3, 1), []string{"contract D abc->bc", "reshape D [3 1]"}},
		{"[2 1 2]", "spread 0 [1 2 3 2]", ints(1, 2, 3, 2), []string{"contract D abcd->bd", "reshape D [2 1 2]"}},
		{"[1 1 1]", "spread 0 [1 2 1 1 2]", ints(1, 2, 1, 1, 2), []string{"contract D abcde->cd", "reshape D [1 1 1]"}},
		{"[2 3]", "reshape 0 [6]", ints(6), []string{"reshape D [2 3]"}},
		{"[4]", "reshape 0 [1 2 2]", ints(1, 2, 2), []string{"reshape D [4]"}},
		{"[7]", "slice 0 (0 1 2 3)", ints(2), []string{"pad D (0 1 2 2)"}},
		{"[7]", "slice 0 (0 0 4 2)", ints(4), []string{"pad D (0 0 0 1)"}},
		{"[7]", "slice 0 (0 2 5 1)", ints(5), []string{"pad D (0 2 0 0)"}},
		{"[7]", "slice 0 (0 0 6 1)", ints(6), []string{"pad D (0 0 1 0)"}},
		{"[7]", "slice 0 (0 6 1 4096)", ints(1), []string{"pad D (0 6 0 4095)"}},
		{"[7]", "slice 0 (0 0 1 1)", ints(1), []string{"pad D (0 0 6 0)"}},
		{"[2 5]", "slice 0 (1 1 2 2)", ints(2, 2), []string{"pad D (1 1 1 1)"}},
		{"[2]", "pad 0 (0 1 2 3)", ints(8), []string{"slice D (0 1 2 4)"}},
		{"[2]", "pad 0 (0 0 0 0)", ints(2), []string{"slice D (0 0 2 1)"}},
		{"[3 2]", "pad 0 (1 0 1 2)", ints(3, 5), []string{"slice D (1 0 2 3)"}},
		{"[1]", "pad 0 (0 2 0 4095)", ints(3), []string{"slice D (0 2 1 4096)"}},
		{"[4]", "gather 0 (0 2 2 0)", ints(3), []string{"scatter D (0 4 2 2 0)"}},
		{"[2 3]", "gather 0 (1 2)", ints(2, 1), []string{"scatter D (1 3 2)"}},
		{"[3]", "scatter 0 (0 5 4 1 1)", ints(5), []string{"gather D (0 4 1 1)"}},
		{"[2 3]", "scatter 0 (0 1 0 0)", ints(1, 3), []string{"gather D (0 0 0)"}},
		{"[6]", "window 0 (0 2 3)", ints(2, 2), []string{"fold D (0 3 6)"}},
		{"[5]", "window 0 (0 3 1)", ints(3, 3), []string{"fold D (0 1 5)"}},
		{"[2 5]", "window 0 (1 1 3)", ints(2, 2, 1), []string{"fold D (1 3 5)"}},
		{"[3]", "window 0 (0 3 9223372036854775807)", ints(1, 3), []string{"fold D (0 9223372036854775807 3)"}},
		{"[2 2]", "fold 0 (0 3 7)", ints(7), []string{"window D (0 2 3)"}},
		{"[3 2]", "fold 0 (0 1 4)", ints(4), []string{"window D (0 2 1)"}},
		{"[2 3 1]", "fold 0 (1 2 6)", ints(2, 6), []string{"window D (1 1 2)"}},
		{"[1 3]", "fold 0 (0 9223372036854775807 4)", ints(4), []string{"window D (0 3 9223372036854775807)"}},
	}
	for _, c := range cases {
		behind, d := ones(c.shape...)
		for _, line := range c.moved {
			behind += strconv.Itoa(d+1) + " " + strings.Replace(line, "D", strconv.Itoa(d), 1) + "\n"
			d++
		}
		sum := "2 contract 1 " + "abcdef"[:len(c.shape)] + "->\n"
		gradRow{"0 input " + c.input + "\n1 " + c.node + "\n" + sum, 2, ints(0, 1), behind, ints(d, d-len(c.moved))}.check(t)
	}
	top, d := ones(3, 2)
	gradRow{"0 input [3 2]\n1 top 0 (1)\n2 contract 1 ab->\n", 2, ints(0, 1, 0), top + "7 const [3 2] 0 0 0 0 0 0\n8 const [3 2] 0 0 0 0 0 0\n", ints(7, d, 8)}.check(t)
}

// A pad whose gap is just MaxSize could be taken back by no slice.
func TestGradGraphOfTheGreatestGap(t *testing.T) {
	for _, lines := range []string{"0 input [1]\n1 pad 0 (0 0 0 4096)\n2 contract 1 a->\n", "0 input [1 2]\n1 pad 0 (0 1 1 4096)\n2 contract 1 ab->\n"} {
		g := gradRow{lines: lines}.graph(t)
		checkNoGradient(t, g, 2, ints(0))
		checkNoGradient(t, g, 2, nil)
		g.Nodes[0] = constNode(g.Nodes[0].Dims, noughts(impl.SizeOf(g.Nodes[0].Dims))...)
		if !checkGradGraph(t, g, 2, ints(0, 1)) {
			t.Error("nothing is taken back to an OpConst")
		}
	}
}

func TestGradGraphOfSeveralNodes(t *testing.T) {
	shared := "0 input []\n1 neg 0\n2 mul 0 1\n3 add 2 0\n"
	loose := "0 input []\n1 input []\n2 neg 1\n3 mul 0 0\n4 neg 3\n5 mul 4 1\n"
	blocked := "0 input []\n1 input []\n2 inv 0\n3 step 2\n4 mul 3 1\n"
	layers := "0 input [2]\n1 const [2 2] 1 2 3 4\n2 contract 1 0 ij,j->i\n3 relu 2\n4 mul 3 0\n5 contract 4 a->\n6 neg 5\n"
	rows := []gradRow{
		{shared, 3, ints(0, 1, 2, 3), "4 const [] 1\n5 mul 4 1\n6 add 4 5\n7 mul 4 0\n8 neg 7\n9 add 6 8\n", ints(9, 7, 4, 4)},
		{shared, 2, ints(0), "4 const [] 1\n5 mul 4 1\n6 mul 4 0\n7 neg 6\n8 add 5 7\n", ints(8)},
		{shared, 1, ints(0, 3), "4 const [] 1\n5 neg 4\n6 const [] 0\n", ints(5, 6)},
		{shared, 0, ints(3, 2, 1, 0), "4 const [] 1\n5 const [] 0\n6 const [] 0\n7 const [] 0\n", ints(5, 6, 7, 4)},
		{loose, 3, ints(0, 1, 2, 3, 4, 5), "6 const [] 1\n7 mul 6 0\n8 mul 6 0\n9 add 7 8\n10 const [] 0\n11 const [] 0\n12 const [] 0\n13 const [] 0\n", ints(9, 10, 11, 6, 12, 13)},
		{loose, 2, ints(1, 1, 0, 0), "6 const [] 1\n7 neg 6\n8 const [] 0\n9 const [] 0\n", ints(7, 7, 8, 9)},
		{blocked, 4, ints(0, 1, 2, 3), "5 const [] 1\n6 mul 5 1\n7 mul 5 3\n8 const [] 0\n9 const [] 0\n", ints(8, 7, 9, 6)},
		{
			layers, 6, ints(0, 3, 1),
			"7 const [] 1\n8 neg 7\n9 const [2] 1 1\n10 contract 8 9 ,a->a\n11 mul 10 0\n12 mul 10 3\n13 step 2\n14 mul 11 13\n15 contract 14 1 i,ij->j\n16 add 12 15\n17 const [2 2] 0 0 0 0\n", ints(16, 11, 17),
		},
		{layers, 5, ints(2), "7 const [] 1\n8 const [2] 1 1\n9 contract 7 8 ,a->a\n10 mul 9 0\n11 mul 9 3\n12 step 2\n13 mul 10 12\n14 contract 13 1 i,ij->j\n15 add 11 14\n", ints(13)},
	}
	for _, row := range rows {
		row.check(t)
	}
}

func TestGradGraphOfWrongOutsAndNodes(t *testing.T) {
	g := graphOf(ints(2), inputNode(1), inputNode(1, 1), formNode("a,bc->", 0, 1), inputNode(2), inputNode())
	for _, out := range ints(0, 1, 3, 5, 6, -1, 40, math.MinInt, math.MaxInt, 1<<32+2, math.MinInt+2) {
		for _, wrt := range [][]int{nil, {0}, {2}, {out}} {
			checkNoGradient(t, g, out, wrt)
		}
	}
	for _, number := range ints(-1, 5, 6, math.MinInt, math.MaxInt, 1<<32) {
		for _, wrt := range [][]int{{number}, {number, 0}, {0, number}, {0, 1, number, 2}} {
			checkNoGradient(t, g, 2, wrt)
			checkNoGradient(t, g, 4, wrt)
		}
	}
	for number := range g.Nodes {
		for _, out := range ints(2, 4) {
			if !checkGradGraph(t, g, out, ints(number, number)) {
				t.Errorf("node %d by node %d has no graph", out, number)
			}
		}
	}
	checkNoGradient(t, impl.Graph{}, 0, nil)
	checkNoGradient(t, impl.Graph{}, -1, nil)
	checkNoGradient(t, impl.Graph{}, 0, ints(0))
	one := graphOf(nil, inputNode())
	if !checkGradGraph(t, one, 0, noughts(40)) {
		t.Error("just MaxOuts numbers")
	}
	checkNoGradient(t, one, 0, noughts(41))
	if two := graphOf(nil, inputNode(), inputNode()); !checkGradGraph(t, two, 0, slices.Repeat(ints(1, 0), 20)) {
		t.Error("just MaxOuts numbers, half of them without a gradient")
	}
}

func TestGradGraphOfWrongGraphs(t *testing.T) {
	one := inputNode()
	wrong := append(wrongGraphs(), graphOf(ints(1), one), graphOf(ints(-1), one), graphOf(noughts(41), one), graphOf(nil, one, argsNode(impl.OpNeg, 1)), graphOf(nil, one, argsNode(20, 0)), graphOf(nil, one, argsNode(impl.OpAdd, 0)), graphOf(nil, one, inputNode(0)), graphOf(nil, one, constNode(nil, -1)))
	source := rand.New(rand.NewSource(101))
	for _, g := range gradGraphs(100, 102)[:400] {
		if spoilt := spoiltGraph(source, g); !impl.GraphOk(spoilt) {
			wrong = append(wrong, spoilt)
		}
	}
	if len(wrong) < 150 {
		t.Errorf("only %d graphs are wrong", len(wrong))
	}
	for _, g := range wrong {
		for out := range g.Nodes {
			checkNoGradient(t, g, out, nil)
			checkNoGradient(t, g, out, ints(0))
			checkNoGradient(t, g, out, ints(out))
		}
	}
}

// chainOf is an input with one number and a chain of this many nodes behind it.
func chainOf(count int, extra ...impl.Node) impl.Graph {
	g := graphOf(nil, inputNode())
	for number := range count {
		g.Nodes = append(g.Nodes, argsNode(impl.OpNeg, number))
	}
	g.Nodes = append(g.Nodes, extra...)
	return g
}

func TestGradGraphAtMaxNodes(t *testing.T) {
	cases := []struct {
		g     impl.Graph
		out   int
		wrt   []int
		count int
	}{
		{chainOf(99), 99, ints(0), 200}, {chainOf(99), 99, nil, 200}, {chainOf(99), 99, noughts(40), 200}, {chainOf(99, inputNode()), 99, ints(0), 201}, {chainOf(99, inputNode()), 99, nil, 201}, {chainOf(100), 100, ints(0), 202}, {chainOf(100), 99, ints(0), 201}, {chainOf(100), 98, ints(0), 200},
		{chainOf(98, inputNode()), 98, ints(0), 199}, {chainOf(98, inputNode()), 98, ints(0, 99), 200}, {chainOf(98, inputNode()), 98, ints(99), 200}, {chainOf(98, inputNode()), 98, ints(0, 99, 99), 201}, {chainOf(98, inputNode(2)), 98, ints(99, 0, 99), 201},
		{chainOf(198), 0, ints(0), 200}, {chainOf(199), 0, ints(0), 201}, {chainOf(199), 0, nil, 201}, {chainOf(198), 0, ints(1), 201}, {chainOf(198), 0, noughts(40), 200}, {chainOf(160), 0, append(ints(0), slices.Repeat(ints(5), 38)...), 200}, {chainOf(160), 0, slices.Repeat(ints(5), 39), 201},
		{chainOf(150, constNode(nil, 4), argsNode(impl.OpInv, 151)), 152, ints(152), 154}, {chainOf(49, argsNode(impl.OpInv, 49)), 50, ints(0), 104}, {chainOf(0, argsNode(impl.OpStep, 0)), 1, ints(0), 4},
	}
	for _, c := range cases {
		got, ok := impl.GradGraph(c.g, c.out, c.wrt)
		if ok != (c.count <= 200) || ok && len(got.Nodes) != c.count {
			t.Errorf("out %d, wrt %v: %d nodes, %v, not %d", c.out, c.wrt, len(got.Nodes), ok, c.count)
		}
		if !checkGradGraph(t, c.g, c.out, c.wrt) {
			checkNoGradient(t, c.g, c.out, c.wrt)
		}
	}
	// What would come here is past all bounds: each node is used twelve times.
	nodes := []impl.Node{inputNode(8, 8, 8, 8)}
	for number := range 198 {
		nodes = append(nodes, formNode("abcd,abcd,abcd,abcd,abcd,abcd->abcd", slices.Repeat(ints(number), 6)...))
	}
	great := summed(graphOf(nil, nodes...), 198)
	checkNoGradientGraph(t, great, 199)
}

func checkNoGradientGraph(t *testing.T, g impl.Graph, out int) {
	t.Helper()
	if got, ok := impl.GradGraph(g, out, ints(0)); ok || !isNoGraph(got) {
		t.Errorf("a graph of %d nodes has a gradient", len(g.Nodes))
	}
}

// wantGradient says what is pulled to any node by the document's words: as to an
// input with the node's value in the node's place. To an OpConst nothing is
// pulled, but what is out itself moves with itself.
func wantGradient(t *testing.T, g impl.Graph, out int, number int, inputs []impl.Tensor) impl.Tensor {
	t.Helper()
	values, _ := wantAll(g, slices.Clone(inputs))
	if g.Nodes[number].Op == impl.OpConst && number != out {
		return built(values[number].Dims, func([]int) int { return 0 })
	}
	cut := copiedGraph(g)
	cut.Nodes[number] = inputNode(values[number].Dims...)
	cut.Outs = ints(out)
	come := picked(values, wantInputs(cut))
	pulled := wantPull(t, cut, come, tensors(tensorOf(nil, 1)))
	return pulled[slices.Index(wantInputs(cut), number)]
}

// P22: by inputs it is what Pull gives for the seed 1; by other nodes the same,
// when they are inputs.
func TestGradientIsWhatIsPulled(t *testing.T) {
	source := rand.New(rand.NewSource(103))
	count, moved := 0, 0
	for _, g := range gradGraphs(150, 104) {
		out, inputs := len(g.Nodes)-1, inputsFor(source, g)
		if _, ok := impl.GradGraph(g, out, wantInputs(g)); !ok {
			continue
		}
		pulling := graphOf(ints(out), g.Nodes...)
		got := impl.Gradient(g, out, wantInputs(g), inputs)
		if want := impl.Pull(pulling, inputs, tensors(tensorOf(nil, 1))); !sameTensors(got, want) {
			t.Fatalf("Gradient(%s, %v) = %v, but %v is pulled", wantText(pulling), inputs, got, want)
		}
		wrt := numbersOf(g)
		if len(wrt) > 40 {
			wrt = wrt[:40]
		}
		got = impl.Gradient(g, out, wrt, inputs)
		if _, ok := impl.GradGraph(g, out, wrt); !ok && len(got) == 0 {
			continue
		}
		if len(got) != len(wrt) {
			t.Fatalf("Gradient(%s, %v) has %d tensors", wantText(pulling), inputs, len(got))
		}
		for at, number := range wrt {
			want := wantGradient(t, g, out, number, inputs)
			if !sameTensor(got[at], want) {
				t.Fatalf("the gradient of %s at %v by node %d is %v, not %v", wantText(pulling), inputs, number, got[at], want)
			}
			count++
			if slices.ContainsFunc(want.Data, func(x int) bool { return x != 0 }) {
				moved++
			}
		}
	}
	if count < 1000 || moved < 500 {
		t.Errorf("%d gradients, %d of them are not all noughts", count, moved)
	}
}

// P22: Gradient is Eval of GradGraph.
func TestGradientIsEvalOfGradGraph(t *testing.T) {
	source := rand.New(rand.NewSource(105))
	there, not := 0, 0
	for _, g := range gradGraphs(150, 106) {
		all := numbersOf(g)
		source.Shuffle(len(all), func(i int, j int) { all[i], all[j] = all[j], all[i] })
		out, wrt := source.Intn(len(all)), all[:source.Intn(min(len(all), 40)+1)]
		inputs := inputsFor(source, g)
		got := impl.Gradient(g, out, wrt, inputs)
		gradient, ok := wantGradGraph(g, out, wrt)
		if !ok {
			not++
			if len(got) > 0 {
				t.Fatalf("Gradient(%s, %d, %v) = %v", wantText(g), out, wrt, got)
			}
			continue
		}
		there++
		values, _ := wantAll(gradient, slices.Clone(inputs))
		if want := picked(values, gradient.Outs); !sameTensors(got, want) || !sameTensors(impl.Eval(gradient, inputs), want) {
			t.Fatalf("Gradient(%s, %d, %v, %v) = %v, not %v", wantText(g), out, wrt, inputs, got, want)
		}
	}
	if there < 100 || not < 100 {
		t.Errorf("%d have gradients, %d do not", there, not)
	}
}

func TestGradientRows(t *testing.T) {
	half := impl.Over(1, 2)
	cases := []struct {
		lines  string
		out    int
		wrt    []int
		inputs []impl.Tensor
		want   []impl.Tensor
	}{
		{"0 input []\n1 mul 0 0\n2 mul 1 0\n", 2, ints(0, 1, 2), tensors(tensorOf(nil, 5)), tensors(tensorOf(nil, 75), tensorOf(nil, 5), tensorOf(nil, 1))},
		{"0 input []\n1 inv 0\n", 1, ints(0), tensors(tensorOf(nil, half)), tensors(tensorOf(nil, moduloPrime(-4)))},
		{"0 input []\n1 inv 0\n", 1, ints(0), tensors(tensorOf(nil, 0)), tensors(tensorOf(nil, 0))},
		{"0 input []\n1 relu 0\n", 1, ints(0), tensors(tensorOf(nil, 0)), tensors(tensorOf(nil, 0))},
		{"0 input []\n1 relu 0\n", 1, ints(0), tensors(tensorOf(nil, 9)), tensors(tensorOf(nil, 1))},
		{"0 input []\n1 relu 0\n", 1, ints(0), tensors(tensorOf(nil, impl.Prime-9)), tensors(tensorOf(nil, 0))},
		{"0 input []\n1 step 0\n", 1, ints(0, 0), tensors(tensorOf(nil, 9)), tensors(tensorOf(nil, 0), tensorOf(nil, 0))},
		{"0 const [] 3\n", 0, ints(0), nil, tensors(tensorOf(nil, 1))},
		{"0 const [] 3\n1 mul 0 0\n", 1, ints(0, 1), nil, tensors(tensorOf(nil, 0), tensorOf(nil, 1))},
		{"0 input [2]\n1 input [2]\n2 contract 0 1 a,a->\n", 2, ints(0, 1), tensors(tensorOf(ints(2), 3, 4), tensorOf(ints(2), 5, 6)), tensors(tensorOf(ints(2), 5, 6), tensorOf(ints(2), 3, 4))},
		{"0 input [2]\n1 input [2]\n2 contract 0 1 a,b->\n", 2, ints(1, 0), tensors(tensorOf(ints(2), 3, 4), tensorOf(ints(2), 5, 6)), tensors(tensorOf(ints(2), 7, 7), tensorOf(ints(2), 11, 11))},
		{"0 input [2]\n1 contract 0 0 0 0 0 0 a,a,a,a,a,a->\n", 1, ints(0), tensors(tensorOf(ints(2), 2, 3)), tensors(tensorOf(ints(2), 6*32, 6*243))},
		{"0 input [1 2]\n1 spread 0 [3 2]\n2 const [3 2] 1 2 3 4 5 6\n3 contract 1 2 ab,ab->\n", 3, ints(0), tensors(tensorOf(ints(1, 2), 8, 9)), tensors(tensorOf(ints(1, 2), 9, 12))},
		{"0 input [5]\n1 slice 0 (0 1 2 2)\n2 const [2] 7 8\n3 contract 1 2 a,a->\n", 3, ints(0), tensors(tensorOf(ints(5), 1, 2, 3, 4, 5)), tensors(tensorOf(ints(5), 0, 7, 0, 8, 0))},
		{"0 input [2]\n1 pad 0 (0 1 0 1)\n2 const [4] 1 2 3 4\n3 contract 1 2 a,a->\n", 3, ints(0), tensors(tensorOf(ints(2), 1, 2)), tensors(tensorOf(ints(2), 2, 4))},
		{"0 input [3]\n1 gather 0 (0 2 0 2)\n2 const [3] 1 10 100\n3 contract 1 2 a,a->\n", 3, ints(0), tensors(tensorOf(ints(3), 1, 2, 3)), tensors(tensorOf(ints(3), 10, 0, 101))},
		{"0 input [3]\n1 scatter 0 (0 4 3 0 3)\n2 const [4] 1 2 3 4\n3 contract 1 2 a,a->\n", 3, ints(0), tensors(tensorOf(ints(3), 1, 2, 3)), tensors(tensorOf(ints(3), 4, 1, 4))},
		{"0 input [4]\n1 window 0 (0 2 1)\n2 const [3 2] 1 2 10 20 100 200\n3 contract 1 2 ab,ab->\n", 3, ints(0), tensors(tensorOf(ints(4), 1, 2, 3, 4)), tensors(tensorOf(ints(4), 1, 12, 120, 200))},
		{"0 input [6]\n1 window 0 (0 1 4)\n2 const [2 1] 5 6\n3 contract 1 2 ab,ab->\n", 3, ints(0), tensors(tensorOf(ints(6), 1, 2, 3, 4, 5, 6)), tensors(tensorOf(ints(6), 5, 0, 0, 0, 6, 0))},
		{"0 input [2 2]\n1 fold 0 (0 1 3)\n2 const [3] 1 10 100\n3 contract 1 2 a,a->\n", 3, ints(0), tensors(tensorOf(ints(2, 2), 1, 2, 3, 4)), tensors(tensorOf(ints(2, 2), 1, 10, 10, 100))},
		{"0 input [2 2]\n1 fold 0 (0 3 7)\n2 const [7] 1 2 3 4 5 6 7\n3 contract 1 2 a,a->\n", 3, ints(0), tensors(tensorOf(ints(2, 2), 1, 2, 3, 4)), tensors(tensorOf(ints(2, 2), 1, 2, 4, 5))},
		{"0 input [2]\n1 input []\n2 neg 1\n", 2, ints(0, 1, 0), tensors(tensorOf(ints(2), 3, 4), tensorOf(nil, 5)), tensors(tensorOf(ints(2), 0, 0), tensorOf(nil, impl.Prime-1), tensorOf(ints(2), 0, 0))},
	}
	for _, c := range cases {
		g := gradRow{lines: c.lines}.graph(t)
		if got := impl.Gradient(g, c.out, c.wrt, c.inputs); len(got) != len(c.want) || !sameTensors(got, c.want) {
			t.Errorf("Gradient(%s, %d, %v, %v) = %v, not %v", c.lines, c.out, c.wrt, c.inputs, got, c.want)
		}
		if got := impl.Gradient(g, c.out, nil, c.inputs); len(got) > 0 {
			t.Errorf("Gradient of %s by nothing: %v", c.lines, got)
		}
	}
}

// wantBend says what the document says of Bend.
func wantBend(g impl.Graph, out int, a int, b int, inputs []impl.Tensor) impl.Tensor {
	gradient, ok := wantGradGraph(g, out, ints(b))
	come := wantInputs(g)
	if !ok || !slices.Contains(come, a) || !slices.Contains(come, b) || len(inputs) != len(come) {
		return impl.Tensor{}
	}
	for at, number := range come {
		if !wantTensorOk(inputs[at]) || !slices.Equal(inputs[at].Dims, g.Nodes[number].Dims) {
			return impl.Tensor{}
		}
	}
	moving := inputs[slices.Index(come, a)]
	dims := ints(len(moving.Data), len(inputs[slices.Index(come, b)].Data))
	if !wantDims(dims) {
		return impl.Tensor{}
	}
	values, _ := wantAll(gradient, slices.Clone(inputs))
	bent := impl.Tensor{Dims: dims}
	for i := range moving.Data {
		slopes := wantSlopes(gradient, values, moveOfOne(inputs, slices.Index(come, a), i))
		bent.Data = append(bent.Data, slopes[gradient.Outs[0]].Data...)
	}
	return bent
}

func turnedRound(a impl.Tensor) impl.Tensor {
	if len(a.Dims) != 2 {
		return impl.Tensor{}
	}
	return built(ints(a.Dims[1], a.Dims[0]), func(index []int) int { return numberAt(a, ints(index[1], index[0])) })
}

func checkBend(t *testing.T, g impl.Graph, out int, a int, b int, inputs []impl.Tensor) impl.Tensor {
	t.Helper()
	got, want := impl.Bend(g, out, a, b, inputs), wantBend(g, out, a, b, inputs)
	if !sameTensor(got, want) {
		t.Fatalf("Bend(%s, %d, %d, %d, %v) = %v, not %v", wantText(g), out, a, b, inputs, got, want)
	}
	return got
}

// bendGraphs have inputs of several sizes that are multiplied with each other
// and with themselves.
func bendGraphs(t *testing.T) []impl.Graph {
	t.Helper()
	texts := []string{
		"0 input [2]\n1 input [3]\n2 contract 0 0 1 a,a,b->\n3 inv 2\n", "0 input []\n1 input [2 2]\n2 input [3]\n3 contract 1 2 0 ab,c,->\n4 mul 3 3\n", "0 input [2]\n1 neg 0\n2 input [2]\n3 mul 1 2\n4 mul 3 0\n5 contract 4 x->\n",
		"0 input [4]\n1 window 0 (0 2 1)\n2 input [2]\n3 contract 1 2 ab,b->a\n4 relu 3\n5 contract 4 4 4 a,a,a->\n", "0 input [3]\n1 input [2]\n2 contract 0 1 a,b->ab\n3 inv 2\n4 contract 3 2 2 ab,ab,ac->\n",
		"0 input [2 2]\n1 input [2]\n2 input []\n3 contract 0 1 ij,j->i\n4 spread 2 [2]\n5 sub 3 4\n6 relu 5\n7 contract 6 6 a,a->\n8 input []\n9 mul 7 8\n",
	}
	graphs := []impl.Graph{}
	for _, text := range texts {
		graphs = append(graphs, gradRow{lines: text}.graph(t))
	}
	return append(graphs, gradGraphs(60, 107)...)
}

// P23, and what the words say of Bend; both of fewer rows and of fewer columns.
func TestBendAgainstWordsAndTurnedRound(t *testing.T) {
	source := rand.New(rand.NewSource(108))
	wide, high, moved := 0, 0, 0
	for _, g := range bendGraphs(t) {
		inputs, come, out := inputsFor(source, g), wantInputs(g), len(g.Nodes)-1
		for _, a := range come {
			for _, b := range come[:source.Intn(len(come)+1)] {
				there, back := checkBend(t, g, out, a, b, inputs), checkBend(t, g, out, b, a, inputs)
				if isNoTensor(there) || isNoTensor(back) {
					continue
				}
				if !sameTensor(there, turnedRound(back)) {
					t.Fatalf("Bend(%s, %d, %d, %d, %v) = %v, turned round %v", wantText(g), out, a, b, inputs, there, back)
				}
				wide += max(0, min(1, there.Dims[1]-there.Dims[0]))
				high += max(0, min(1, there.Dims[0]-there.Dims[1]))
				if slices.ContainsFunc(there.Data, func(x int) bool { return x != 0 }) {
					moved++
				}
			}
		}
	}
	if wide < 100 || high < 100 || moved < 50 {
		t.Errorf("%d are wide, %d are high, %d are not all noughts", wide, high, moved)
	}
}

func TestBendRows(t *testing.T) {
	cases := []struct {
		lines  string
		out    int
		a, b   int
		inputs []impl.Tensor
		want   impl.Tensor
	}{
		{"0 input []\n1 mul 0 0\n", 1, 0, 0, tensors(tensorOf(nil, 5)), tensorOf(ints(1, 1), 2)},
		{"0 input []\n1 mul 0 0\n2 mul 1 0\n", 2, 0, 0, tensors(tensorOf(nil, 5)), tensorOf(ints(1, 1), 30)},
		{"0 input []\n1 inv 0\n", 1, 0, 0, tensors(tensorOf(nil, impl.Over(1, 3))), tensorOf(ints(1, 1), 54)},
		{"0 input []\n1 inv 0\n", 1, 0, 0, tensors(tensorOf(nil, 0)), tensorOf(ints(1, 1), 0)},
		{"0 input []\n1 relu 0\n2 mul 1 1\n", 2, 0, 0, tensors(tensorOf(nil, 4)), tensorOf(ints(1, 1), 2)},
		{"0 input []\n1 relu 0\n2 mul 1 1\n", 2, 0, 0, tensors(tensorOf(nil, impl.Prime-4)), tensorOf(ints(1, 1), 0)},
		{"0 input []\n1 input []\n2 mul 0 1\n3 mul 2 0\n", 3, 0, 1, tensors(tensorOf(nil, 3), tensorOf(nil, 7)), tensorOf(ints(1, 1), 6)},
		{"0 input []\n1 input []\n2 mul 0 1\n3 mul 2 0\n", 3, 0, 0, tensors(tensorOf(nil, 3), tensorOf(nil, 7)), tensorOf(ints(1, 1), 14)},
		{"0 input []\n1 input []\n2 mul 0 1\n3 mul 2 0\n", 3, 1, 1, tensors(tensorOf(nil, 3), tensorOf(nil, 7)), tensorOf(ints(1, 1), 0)},
		{"0 input []\n1 input []\n2 mul 0 1\n3 mul 2 0\n", 2, 1, 0, tensors(tensorOf(nil, 3), tensorOf(nil, 7)), tensorOf(ints(1, 1), 1)},
		{"0 input []\n1 input []\n2 mul 0 1\n3 mul 2 0\n", 0, 1, 0, tensors(tensorOf(nil, 3), tensorOf(nil, 7)), tensorOf(ints(1, 1), 0)},
		{"0 input [2]\n1 input [3]\n2 const [2 3] 1 2 3 4 5 6\n3 contract 0 2 1 i,ij,j->\n", 3, 0, 1, tensors(tensorOf(ints(2), 7, 8), tensorOf(ints(3), 7, 8, 9)), tensorOf(ints(2, 3), 1, 2, 3, 4, 5, 6)},
		{"0 input [2]\n1 input [3]\n2 const [2 3] 1 2 3 4 5 6\n3 contract 0 2 1 i,ij,j->\n", 3, 1, 0, tensors(tensorOf(ints(2), 7, 8), tensorOf(ints(3), 7, 8, 9)), tensorOf(ints(3, 2), 1, 4, 2, 5, 3, 6)},
		{"0 input [2]\n1 input [3]\n2 const [2 3] 1 2 3 4 5 6\n3 contract 0 2 1 i,ij,j->\n", 3, 0, 0, tensors(tensorOf(ints(2), 7, 8), tensorOf(ints(3), 7, 8, 9)), tensorOf(ints(2, 2), 0, 0, 0, 0)},
		{"0 input [2 2]\n1 contract 0 0 0 ab,ab,ab->\n", 1, 0, 0, tensors(tensorOf(ints(2, 2), 1, 2, 3, 4)), tensorOf(ints(4, 4), 6, 0, 0, 0, 0, 12, 0, 0, 0, 0, 18, 0, 0, 0, 0, 24)},
		{"0 input [2]\n1 input [2]\n2 contract 0 0 a,a->\n", 2, 0, 1, tensors(tensorOf(ints(2), 7, 8), tensorOf(ints(2), 1, 2)), tensorOf(ints(2, 2), 0, 0, 0, 0)},
		{"0 input [2]\n1 input [2]\n2 contract 0 0 a,a->\n", 2, 1, 0, tensors(tensorOf(ints(2), 7, 8), tensorOf(ints(2), 1, 2)), tensorOf(ints(2, 2), 0, 0, 0, 0)},
		{"0 input [2]\n1 input [2]\n2 contract 0 0 a,a->\n", 2, 1, 1, tensors(tensorOf(ints(2), 7, 8), tensorOf(ints(2), 1, 2)), tensorOf(ints(2, 2), 0, 0, 0, 0)},
	}
	for _, c := range cases {
		g := gradRow{lines: c.lines}.graph(t)
		for _, outs := range [][]int{nil, {c.out}, {0, 0}, noughts(40)} {
			g.Outs = outs
			if got := impl.Bend(g, c.out, c.a, c.b, c.inputs); !sameTensor(got, c.want) {
				t.Errorf("Bend(%s, %d, %d, %d, %v) = %v, not %v", c.lines, c.out, c.a, c.b, c.inputs, got, c.want)
			}
		}
		for _, outs := range [][]int{{-1}, {len(g.Nodes)}, noughts(41)} {
			g.Outs = outs
			if got := impl.Bend(g, c.out, c.a, c.b, c.inputs); !isNoTensor(got) {
				t.Errorf("Bend(%s) with the Outs %v = %v", c.lines, outs, got)
			}
		}
	}
}

func TestGradientAndBendOfWrongInputs(t *testing.T) {
	lines := "0 input [2 3]\n1 input [6]\n2 contract 0 1 ab,c->\n3 input []\n4 mul 2 3\n"
	g := gradRow{lines: lines}.graph(t)
	right := tensors(tensorOf(ints(2, 3), 1, 2, 3, 4, 5, 6), tensorOf(ints(6), 1, 2, 3, 4, 5, 6), tensorOf(nil, 7))
	refused := [][]impl.Tensor{
		nil, {}, right[:1], right[:2], right[1:], append(slices.Clone(right), right[0]), append(slices.Clone(right), tensorOf(nil, 1)), append(slices.Clone(right), impl.Tensor{}), {right[1], right[0], right[2]}, {right[2], right[1], right[0]},
		{right[0], right[0], right[2]}, {right[1], right[1], right[2]}, {right[0], right[1], tensorOf(ints(1), 7)}, {right[0], right[1], tensorOf(nil)}, {right[0], right[1], tensorOf(nil, 7, 8)}, {right[0], tensorOf(ints(3, 2), 1, 2, 3, 4, 5, 6), right[2]},
		{tensorOf(ints(3, 2), 1, 2, 3, 4, 5, 6), right[1], right[2]}, {tensorOf(ints(2, 3, 1), 1, 2, 3, 4, 5, 6), right[1], right[2]}, {tensorOf(ints(2, 2), 1, 2, 3, 4), right[1], right[2]},
	}
	for _, bad := range wrongTensors() {
		refused = append(refused, []impl.Tensor{bad, right[1], right[2]}, []impl.Tensor{right[0], bad, right[2]}, []impl.Tensor{right[0], right[1], bad})
	}
	for _, inputs := range refused {
		for _, outs := range [][]int{nil, {4}} {
			g.Outs = outs
			for _, wrt := range [][]int{{0}, {3}, {4}, {0, 1}, nil} {
				if got := impl.Gradient(g, 4, wrt, inputs); len(got) > 0 {
					t.Errorf("Gradient(%s, %v) = %v", lines, inputs, got)
				}
			}
			for _, pair := range [][2]int{{0, 1}, {1, 0}, {3, 0}, {0, 3}, {3, 3}} {
				if got := impl.Bend(g, 4, pair[0], pair[1], inputs); !isNoTensor(got) {
					t.Errorf("Bend(%s, %v, %v) = %v", lines, pair, inputs, got)
				}
			}
		}
	}
	if len(impl.Gradient(g, 4, ints(0, 1, 3), right)) != 3 || isNoTensor(checkBend(t, g, 4, 0, 3, right)) || isNoTensor(checkBend(t, g, 4, 1, 0, right)) {
		t.Error("what is right is refused")
	}
}

func TestBendOfWhatIsNoInput(t *testing.T) {
	lines := "0 input [2]\n1 const [2] 1 2\n2 contract 0 1 0 a,a,a->\n3 neg 2\n4 const [] 5\n5 input []\n6 mul 5 5\n"
	g := gradRow{lines: lines}.graph(t)
	inputs := tensors(tensorOf(ints(2), 3, 4), tensorOf(nil, 5))
	for _, out := range ints(2, 3, 5, 6) {
		for _, number := range ints(-1, 1, 2, 3, 4, 6, 7, 8, 9, 10, 11, 12, 13, math.MinInt, math.MaxInt, 1<<32) {
			for _, pair := range [][2]int{{0, number}, {number, 0}, {5, number}, {number, 5}, {number, number}} {
				if got := impl.Bend(g, out, pair[0], pair[1], inputs); !isNoTensor(got) {
					t.Errorf("Bend(%d, %v) = %v", out, pair, got)
				}
			}
		}
	}
	for _, out := range ints(0, 1, 7, -1, math.MinInt, math.MaxInt) {
		if got := impl.Bend(g, out, 0, 0, inputs); !isNoTensor(got) {
			t.Errorf("Bend of node %d = %v", out, got)
		}
	}
	if got := impl.Bend(impl.Graph{}, 0, 0, 0, nil); !isNoTensor(got) {
		t.Errorf("Bend of a graph without nodes = %v", got)
	}
	// With an OpConst as out nothing moves; nor with out itself.
	for _, out := range ints(4, 5) {
		if got := impl.Bend(g, out, 0, 5, inputs); !sameTensor(got, tensorOf(ints(2, 1), 0, 0)) {
			t.Errorf("Bend of node %d = %v", out, got)
		}
	}
}

func TestBendAtTheGreatestDims(t *testing.T) {
	product := func(first int, second int) (impl.Graph, []impl.Tensor) {
		g := graphOf(nil, inputNode(first), inputNode(second), formNode("a->", 0), formNode("a,a->", 1, 1), argsNode(impl.OpMul, 2, 3))
		twice := func(index []int) int { return 2*index[0] + 1 }
		return g, tensors(built(ints(first), twice), built(ints(second), twice))
	}
	// The slope by a number of the second is twice that number.
	for _, sizes := range [][2]int{{64, 64}, {1, 4096}, {4096, 1}, {512, 8}, {3, 1365}, {2, 2048}} {
		g, inputs := product(sizes[0], sizes[1])
		got := impl.Bend(g, 4, 0, 1, inputs)
		if want := built(ints(sizes[0], sizes[1]), func(index []int) int { return 4*index[1] + 2 }); !sameTensor(got, want) {
			t.Errorf("Bend of %v is wrong: %s", sizes, brief(got))
		}
		if back := impl.Bend(g, 4, 1, 0, inputs); !sameTensor(back, turnedRound(got)) {
			t.Errorf("Bend of %v turned round is wrong: %s", sizes, brief(back))
		}
	}
	for _, sizes := range [][2]int{{64, 65}, {65, 64}, {2, 2049}, {4096, 2}, {2, 4096}, {4096, 4096}, {17, 241}} {
		g, inputs := product(sizes[0], sizes[1])
		if got := impl.Bend(g, 4, 0, 1, inputs); !isNoTensor(got) {
			t.Errorf("Bend of %v is %s", sizes, brief(got))
		}
		if got := impl.Bend(g, 4, 1, 0, inputs); !isNoTensor(got) {
			t.Errorf("Bend of %v is %s", sizes, brief(got))
		}
	}
	g, inputs := product(65, 2)
	if got := impl.Bend(g, 4, 0, 0, inputs); !isNoTensor(got) {
		t.Errorf("Bend of 65 by itself is %s", brief(got))
	}
	if got := impl.Bend(g, 4, 1, 1, inputs); !sameTensor(got, tensorOf(ints(2, 2), 2*65*65, 0, 0, 2*65*65)) {
		t.Errorf("Bend of 2 by itself is %s", brief(got))
	}
}

// An input without a gradient needs one node more: so the one way may be too
// long where the other is not.
func TestBendAtMaxNodes(t *testing.T) {
	g := chainOf(98, inputNode(), inputNode())
	inputs := tensors(tensorOf(nil, 3), tensorOf(nil, 4), tensorOf(nil, 5))
	if got := impl.Bend(g, 98, 99, 0, inputs); !sameTensor(got, tensorOf(ints(1, 1), 0)) {
		t.Errorf("Bend by an input with a gradient = %v", got)
	}
	if got := impl.Bend(g, 98, 0, 99, inputs); !isNoTensor(got) {
		t.Errorf("Bend by an input without a gradient = %v", got)
	}
	if got := impl.Bend(g, 97, 0, 99, inputs); !sameTensor(got, tensorOf(ints(1, 1), 0)) {
		t.Errorf("Bend with one node less = %v", got)
	}
}

// A gradient's gradient is a graph, too; for powers it is known.
func TestGradientsOfGradients(t *testing.T) {
	fifth := gradRow{lines: "0 input []\n1 mul 0 0\n2 mul 1 1\n3 mul 2 0\n"}.graph(t)
	x := tensors(tensorOf(nil, 3))
	g, out := fifth, 3
	for _, want := range ints(405, 540, 540) {
		gradient, ok := impl.GradGraph(g, out, ints(0))
		if !ok {
			t.Fatal("no gradient")
		}
		if got := impl.Eval(gradient, x); !sameTensors(got, tensors(tensorOf(nil, want))) {
			t.Errorf("the next gradient is %v, not %d", got, want)
		}
		g, out = gradient, gradient.Outs[0]
	}
	source := rand.New(rand.NewSource(109))
	count := 0
	for _, first := range gradGraphs(60, 110) {
		out, come := len(first.Nodes)-1, wantInputs(first)
		gradient, ok := impl.GradGraph(first, out, come)
		if !ok || len(come) == 0 {
			continue
		}
		second := summed(gradient, gradient.Outs[0])
		if len(second.Nodes) > 200 {
			continue
		}
		if !checkGradGraph(t, second, len(second.Nodes)-1, come) {
			continue
		}
		inputs := inputsFor(source, first)
		got := impl.Gradient(second, len(second.Nodes)-1, come, inputs)
		if want := impl.Pull(graphOf(ints(len(second.Nodes)-1), second.Nodes...), inputs, tensors(tensorOf(nil, 1))); !sameTensors(got, want) {
			t.Fatalf("the gradient's gradient of %s is %v, not %v", wantText(first), got, want)
		}
		count++
	}
	if count < 100 {
		t.Errorf("only %d have a gradient's gradient", count)
	}
}

func TestGradientListsAreLeftAlone(t *testing.T) {
	source := rand.New(rand.NewSource(111))
	// An Arg that several nodes of one kind use has its shape told several times.
	graphs := gradGraphs(40, 112)
	for _, node := range []string{"reshape 0 [3 1]", "spread 0 [2 3]", "contract 0 a->a", "slice 0 (0 1 1 1)", "gather 0 (0 1 1)", "scatter 0 (0 4 1 2 2)", "window 0 (0 2 1)", "pad 0 (0 1 1 1)"} {
		both := gradRow{lines: "0 input [3]\n1 " + node + "\n2 " + node + "\n3 add 1 2\n4 mul 3 1\n"}.graph(t)
		graphs = append(graphs, summed(both, 4))
	}
	for _, g := range graphs {
		inputs, out := inputsFor(source, g), len(g.Nodes)-1
		wrt := append(wantInputs(g), 0, out, 0, source.Intn(out+1))
		g.Outs = ints(out, 0)
		checkAlone(t, "GradGraph", append(listsOf(g, nil), wrt), func(lists [][]int) [][]int {
			made, _ := withLists(g, nil, lists[:len(lists)-1])
			gradient, _ := impl.GradGraph(made, out, lists[len(lists)-1])
			return listsOf(gradient, nil)
		})
		checkAlone(t, "Gradient", append(listsOf(g, inputs), wrt), func(lists [][]int) [][]int {
			made, ts := withLists(g, inputs, lists[:len(lists)-1])
			return listsOfTensors(impl.Gradient(made, out, lists[len(lists)-1], ts))
		})
		for _, a := range wantInputs(g) {
			checkAlone(t, "Bend", listsOf(g, inputs), func(lists [][]int) [][]int {
				made, ts := withLists(g, inputs, lists)
				return listsOfTensors(tensors(impl.Bend(made, out, a, wantInputs(g)[0], ts)))
			})
		}
	}
}

// The lists of nodes and of tensors are left alone, too, with the room behind
// them, and are not those of the answer.
func TestGradientGraphsAndTensorsAreLeftAlone(t *testing.T) {
	source := rand.New(rand.NewSource(113))
	for _, g := range gradGraphs(40, 114) {
		out := len(g.Nodes) - 1
		g.Nodes = append(slices.Clone(g.Nodes), slices.Repeat([]impl.Node{{Op: 77}}, 60)...)[:len(g.Nodes)]
		inputs := inputsFor(source, g)
		inputs = append(inputs, tensorOf(ints(1), 77), tensorOf(ints(1), 78))[:len(inputs)]
		before := copiedGraph(impl.Graph{Nodes: g.Nodes[:cap(g.Nodes)], Outs: g.Outs})
		kept := slices.Clone(inputs[:cap(inputs)])
		gradient, _ := impl.GradGraph(g, out, ints(0, out))
		impl.Gradient(g, out, ints(0, out), inputs)
		for _, a := range wantInputs(g) {
			impl.Bend(g, out, a, a, inputs)
		}
		for number := range gradient.Nodes {
			gradient.Nodes[number].Op = -1
		}
		if !sameGraph(before, impl.Graph{Nodes: g.Nodes[:cap(g.Nodes)], Outs: g.Outs}) || !reflect.DeepEqual(kept, inputs[:cap(inputs)]) {
			t.Fatalf("%s has changed", wantText(g))
		}
	}
}

func TestRoomBehindGradientListsIsNotRead(t *testing.T) {
	g := graphOf(nil, inputNode(), argsNode(impl.OpNeg, 0), argsNode(impl.OpNeg, 1))
	short := graphOf(nil, g.Nodes[:2]...)
	checkNoGradient(t, short, 2, nil)
	checkNoGradient(t, short, 1, ints(2))
	if gradient, ok := impl.GradGraph(short, 1, ints(0, 2)[:1]); !ok || !slices.Equal(gradient.Outs, ints(3)) {
		t.Errorf("a number was read behind its list: %v", gradient)
	}
	if gradient, ok := impl.GradGraph(short, 1, noughts(41)[:40]); !ok || len(gradient.Outs) != 40 {
		t.Errorf("numbers were read behind their list: %v", gradient)
	}
	two := tensors(tensorOf(nil, 1), tensorOf(nil, 2))
	pair := graphOf(nil, inputNode(), inputNode(), argsNode(impl.OpMul, 0, 1))
	if len(impl.Gradient(pair, 2, ints(0), two[:1])) > 0 || !isNoTensor(impl.Bend(pair, 2, 0, 1, two[:1])) || len(impl.Gradient(short, 1, ints(0), two[:1])) != 1 {
		t.Error("a tensor was read behind its list")
	}
}

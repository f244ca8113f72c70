package tests

import (
	"fmt"
	"math"
	"math/big"
	"math/rand"
	"reflect"
	"regexp"
	"slices"
	"strconv"
	"strings"
	"testing"

	"loop.example/g00033/impl"
)

func calcWords() []string {
	return []string{"", "load", "const", "add", "sub", "mul", "neg", "inv", "step", "relu"}
}

// intsIn reads ints with blanks between them.
func intsIn(text string) []int {
	list := []int{}
	for _, word := range strings.Fields(text) {
		x, err := strconv.Atoi(word)
		if err != nil {
			panic(err)
		}
		list = append(list, x)
	}
	return list
}

func accessesIn(text string) []impl.Access {
	list := []impl.Access{}
	for _, found := range regexp.MustCompile(`(-?\d+)@(-?\d+)\(([^)]*)\)`).FindAllStringSubmatch(text, -1) {
		list = append(list, impl.Access{Buffer: intsIn(found[1])[0], Offset: intsIn(found[2])[0], Steps: intsIn(found[3])})
	}
	return list
}

func codeIn(text string) []impl.Calc {
	code := []impl.Calc{}
	for _, step := range strings.Split(text, ",") {
		word, rest, _ := strings.Cut(strings.TrimSpace(step), " ")
		if word == "" {
			continue
		}
		numbers := append(intsIn(rest), 0)
		code = append(code, impl.Calc{Op: slices.Index(calcWords(), word), A: numbers[0], B: numbers[1]})
	}
	return code
}

// kernelIn reads a kernel: its lengths, its Loads, -> and its Store (+> with
// Sum), and its Code. An access is its buffer, its Offset and its Steps.
//
//	for 2 3: 0@0(3 1) 1@0(0 1) -> 2@0(3 1): load 0, load 1, add 0 1
func kernelIn(text string) impl.Kernel {
	parts := strings.Split(text, ":")
	loads, store, _ := strings.Cut(parts[1], ">")
	return impl.Kernel{
		Loops: intsIn(strings.TrimPrefix(parts[0], "for")), Loads: accessesIn(loads), Store: accessesIn(store)[0],
		Sum: strings.HasSuffix(loads, "+"), Code: codeIn(parts[2]),
	}
}

// nestIn reads a nest: a line of sizes, then lines of in, fix (the buffer and
// its numbers), for (a kernel) and out, those that are needed.
func nestIn(text string) impl.Nest {
	l := impl.Nest{}
	for _, line := range strings.Split(strings.TrimSpace(text), "\n") {
		line = strings.TrimSpace(line)
		word, rest, _ := strings.Cut(line, " ")
		switch word {
		case "sizes":
			l.Sizes = intsIn(rest)
		case "in":
			l.Ins = intsIn(rest)
		case "fix":
			l.Fixed = append(l.Fixed, impl.Fix{Buffer: intsIn(rest)[0], Data: intsIn(rest)[1:]})
		case "out":
			l.Outs = intsIn(rest)
		default:
			l.Kernels = append(l.Kernels, kernelIn(line))
		}
	}
	return l
}

func intsText(list []int) string { return strings.Trim(fmt.Sprint(list), "[]") }

func accessText(a impl.Access) string {
	return fmt.Sprintf("%d@%d(%s)", a.Buffer, a.Offset, intsText(a.Steps))
}

func kernelText(k impl.Kernel) string {
	text := strings.TrimSpace("for "+intsText(k.Loops)) + ":"
	for _, load := range k.Loads {
		text += " " + accessText(load)
	}
	if k.Sum {
		text += " +> "
	} else {
		text += " -> "
	}
	text += accessText(k.Store) + ":"
	for at, c := range k.Code {
		if at > 0 {
			text += ","
		}
		word := strconv.Itoa(c.Op)
		if c.Op > 0 && c.Op <= 9 {
			word = calcWords()[c.Op]
		}
		text += fmt.Sprintf(" %s %d", word, c.A)
		if c.B != 0 || c.Op >= 3 && c.Op <= 5 {
			text += fmt.Sprintf(" %d", c.B)
		}
	}
	return text
}

func nestText(l impl.Nest) string {
	text := strings.TrimSpace("sizes "+intsText(l.Sizes)) + "\n" + strings.TrimSpace("in "+intsText(l.Ins)) + "\n"
	for _, f := range l.Fixed {
		text += strings.TrimSpace(fmt.Sprintf("fix %d %s", f.Buffer, intsText(f.Data))) + "\n"
	}
	for _, k := range l.Kernels {
		text += kernelText(k) + "\n"
	}
	return text + strings.TrimSpace("out "+intsText(l.Outs)) + "\n"
}

func sameNest(a impl.Nest, b impl.Nest) bool { return nestText(a) == nestText(b) }

func isNoNest(l impl.Nest) bool { return sameNest(l, impl.Nest{}) }

func sameKernel(a impl.Kernel, b impl.Kernel) bool { return kernelText(a) == kernelText(b) }

func TestNestTexts(t *testing.T) {
	text := "sizes 2 0 6\nin 1 0\nfix 1\nfix 2 1 2 3 4 5 6\nfor 2 3: 0@-1(3 -1) 1@0(0 1) +> 2@5(): load 1, const 7, add 0 1, relu 2 9\nfor: -> 0@0(): const 4\nout 0 0\n"
	l := nestIn(text)
	if nestText(l) != text || !l.Kernels[0].Sum || l.Kernels[1].Sum || l.Kernels[0].Code[3] != (impl.Calc{Op: 9, A: 2, B: 9}) {
		t.Errorf("read back: %s", nestText(l))
	}
}

func copiedAccess(a impl.Access) impl.Access {
	a.Steps = slices.Clone(a.Steps)
	return a
}

func copiedKernel(k impl.Kernel) impl.Kernel {
	k.Loops, k.Code, k.Store, k.Loads = slices.Clone(k.Loops), slices.Clone(k.Code), copiedAccess(k.Store), slices.Clone(k.Loads)
	for at, load := range k.Loads {
		k.Loads[at] = copiedAccess(load)
	}
	return k
}

func copiedNest(l impl.Nest) impl.Nest {
	l.Sizes, l.Ins, l.Outs, l.Fixed, l.Kernels = slices.Clone(l.Sizes), slices.Clone(l.Ins), slices.Clone(l.Outs), slices.Clone(l.Fixed), slices.Clone(l.Kernels)
	for at, f := range l.Fixed {
		l.Fixed[at].Data = slices.Clone(f.Data)
	}
	for at, k := range l.Kernels {
		l.Kernels[at] = copiedKernel(k)
	}
	return l
}

// wantAccess says whether each place of an access is in its buffer, reckoned
// with numbers that have no end.
func wantAccess(a impl.Access, loops []int, sizes []int) bool {
	if a.Buffer < 0 || a.Buffer >= len(sizes) || len(a.Steps) != len(loops) {
		return false
	}
	least, most := wide(a.Offset), wide(a.Offset)
	for at, step := range a.Steps {
		if loops[at] == 1 && step != 0 {
			return false
		}
		reach := new(big.Int).Mul(wide(loops[at]-1), wide(step))
		if reach.Sign() < 0 {
			least.Add(least, reach)
		} else {
			most.Add(most, reach)
		}
	}
	return least.Sign() >= 0 && most.Cmp(wide(sizes[a.Buffer])) < 0
}

func wantCalc(c impl.Calc, at int, loads int) bool {
	in := func(x int, n int) bool { return x >= 0 && x < n }
	switch {
	case c.Op == 1:
		return in(c.A, loads) && c.B == 0
	case c.Op == 2:
		return in(c.A, 2147483647) && c.B == 0
	case c.Op >= 3 && c.Op <= 5:
		return in(c.A, at) && in(c.B, at)
	case c.Op >= 6 && c.Op <= 9:
		return in(c.A, at) && c.B == 0
	}
	return false
}

// wantWorkOf gives the product of the Loops; false when a kernel may not have
// them.
func wantWorkOf(k impl.Kernel) (int, bool) {
	work := big.NewInt(1)
	for _, length := range k.Loops {
		if length < 1 {
			return 0, false
		}
		work.Mul(work, wide(length))
	}
	return int(work.Int64()), len(k.Loops) <= 12 && work.Cmp(wide(65536)) <= 0
}

func wantKernelOk(k impl.Kernel, sizes []int) bool {
	if _, ok := wantWorkOf(k); !ok || len(k.Loads) > 30 || len(k.Code) < 1 || len(k.Code) > 60 || !wantAccess(k.Store, k.Loops, sizes) {
		return false
	}
	for _, load := range k.Loads {
		if !wantAccess(load, k.Loops, sizes) || load.Buffer == k.Store.Buffer {
			return false
		}
	}
	for at, c := range k.Code {
		if !wantCalc(c, at, len(k.Loads)) {
			return false
		}
	}
	return true
}

// wantNestOk says what the document says of NestOk.
func wantNestOk(l impl.Nest) bool {
	if len(l.Sizes) > 200 || len(l.Ins) > 40 || len(l.Outs) > 40 || len(l.Kernels) > 400 {
		return false
	}
	for _, size := range l.Sizes {
		if size < 0 || size > 4096 {
			return false
		}
	}
	for _, buffer := range slices.Concat(l.Ins, l.Outs) {
		if buffer < 0 || buffer >= len(l.Sizes) {
			return false
		}
	}
	given := map[int]int{}
	for _, buffer := range l.Ins {
		given[buffer]++
	}
	for _, f := range l.Fixed {
		given[f.Buffer]++
		if f.Buffer < 0 || f.Buffer >= len(l.Sizes) || len(f.Data) != l.Sizes[f.Buffer] || slices.ContainsFunc(f.Data, func(x int) bool { return x < 0 || x >= 2147483647 }) {
			return false
		}
	}
	for _, often := range given {
		if often > 1 {
			return false
		}
	}
	all := 0
	for _, k := range l.Kernels {
		if !wantKernelOk(k, l.Sizes) || given[k.Store.Buffer] > 0 {
			return false
		}
		work, _ := wantWorkOf(k)
		all += work
	}
	return all <= 1000000
}

// checkNestOk holds NestOk against the words, and the answers at what is not
// NestOk.
func checkNestOk(t *testing.T, l impl.Nest) bool {
	t.Helper()
	ok := wantNestOk(l)
	if impl.NestOk(l) != ok {
		t.Fatalf("NestOk is not %v of\n%s", ok, nestText(l))
	}
	if ok {
		return true
	}
	ins := [][]int{}
	for _, buffer := range l.Ins {
		size := 0
		if buffer >= 0 && buffer < len(l.Sizes) {
			size = min(max(0, l.Sizes[buffer]), 5000)
		}
		ins = append(ins, noughts(size))
	}
	if len(impl.RunNest(l, ins)) > 0 || len(impl.RunNest(l, nil)) > 0 || !isNoNest(impl.Fuse(l)) {
		t.Fatalf("something comes of\n%s", nestText(l))
	}
	return false
}

func TestLoopLimits(t *testing.T) {
	if impl.MaxKernels != 400 || impl.MaxLoops != 12 || impl.MaxLoads != 30 || impl.MaxCode != 60 || impl.MaxAll != 1000000 {
		t.Error("the limits of chapter 11")
	}
	for i, op := range ints(impl.KLoad, impl.KConst, impl.KAdd, impl.KSub, impl.KMul, impl.KNeg, impl.KInv, impl.KStep, impl.KRelu) {
		if op != i+1 {
			t.Errorf("Op %d of Code is %d", i+1, op)
		}
	}
}

// A nestChange changes a nest that is NestOk; ok says whether it is so then.
type nestChange struct {
	name   string
	ok     bool
	change func(l *impl.Nest)
}

func checkChanges(t *testing.T, base impl.Nest, changes []nestChange) {
	t.Helper()
	if !checkNestOk(t, base) {
		t.Fatalf("what is to be changed is refused:\n%s", nestText(base))
	}
	for _, c := range changes {
		l := copiedNest(base)
		c.change(&l)
		if checkNestOk(t, l) != c.ok {
			t.Errorf("%s: NestOk is %v", c.name, !c.ok)
		}
	}
}

// wrongInts are ints that are no number of anything.
func wrongInts() []int {
	return ints(-1, -2, 4097, 1<<31, 1<<32, 1<<62, math.MinInt, math.MinInt+1, math.MaxInt, math.MaxInt-1)
}

func plainNest() impl.Nest {
	return nestIn(`sizes 6 6 6 0 4096
		in 0
		fix 1 1 2 3 4 5 6
		for 2 3: 0@0(3 1) 1@5(-3 -1) -> 2@0(1 2): load 0, load 1, const 5, add 0 1, sub 3 2, mul 4 4, neg 5, inv 6, step 7, relu 8
		out 2`)
}

func TestNestOkOfBuffers(t *testing.T) {
	many := func(count int) impl.Nest { return impl.Nest{Sizes: noughts(count)} }
	for _, l := range []impl.Nest{{}, {Sizes: ints(0)}, {Sizes: ints(4096)}, many(199), many(200), {Sizes: slices.Repeat(ints(4096), 200), Outs: firstNumbers(40)}} {
		if !checkNestOk(t, l) {
			t.Errorf("refused:\n%s", nestText(l))
		}
	}
	wrong := []impl.Nest{many(201), many(1000), {Sizes: ints(4097)}, {Sizes: ints(-1)}, {Sizes: ints(0, -1)}, {Ins: ints(0)}, {Outs: ints(0)}, {Fixed: []impl.Fix{{}}}, {Kernels: []impl.Kernel{{}}}}
	for _, x := range wrongInts() {
		wrong = append(wrong, impl.Nest{Sizes: ints(x)}, impl.Nest{Sizes: ints(5, x, 5)}, impl.Nest{Sizes: ints(5), Ins: ints(x)}, impl.Nest{Sizes: ints(5), Outs: ints(0, x)}, impl.Nest{Sizes: ints(0), Fixed: []impl.Fix{{Buffer: x}}})
	}
	for _, l := range wrong {
		if checkNestOk(t, l) {
			t.Errorf("taken:\n%s", nestText(l))
		}
	}
}

func TestNestOkOfEnds(t *testing.T) {
	fixed := func(data ...int) func(l *impl.Nest) {
		return func(l *impl.Nest) { l.Fixed[0].Data = data }
	}
	another := func(buffer int, data ...int) func(l *impl.Nest) {
		return func(l *impl.Nest) { l.Fixed = append(l.Fixed, impl.Fix{Buffer: buffer, Data: data}) }
	}
	ins := func(list ...int) func(l *impl.Nest) { return func(l *impl.Nest) { l.Ins = list } }
	outs := func(list ...int) func(l *impl.Nest) { return func(l *impl.Nest) { l.Outs = list } }
	checkChanges(t, plainNest(), []nestChange{
		{"nothing", true, func(*impl.Nest) {}},
		{"no Ins", true, ins()}, {"two Ins", true, ins(0, 4)}, {"an In of size 0", true, ins(3, 0)}, {"an In twice", false, ins(0, 0)}, {"an In twice, not beside", false, ins(0, 3, 4, 0)},
		{"an In past the last", false, ins(5)}, {"an In below 0", false, ins(-1)}, {"an In that is Fixed", false, ins(1)}, {"an In that is stored in", false, ins(0, 2)},
		{"no Outs", true, outs()}, {"an Out twice", true, outs(2, 2, 2)}, {"an Out of Ins", true, outs(0)}, {"an Out of Fixed", true, outs(1, 0)}, {"an Out of size 0", true, outs(3)}, {"an Out past the last", false, outs(2, 5)}, {"an Out below 0", false, outs(-1, 2)},
		{"40 Outs", true, outs(slices.Repeat(ints(2), 40)...)}, {"41 Outs", false, outs(slices.Repeat(ints(2), 41)...)},
		{"too few numbers", false, fixed(1, 2, 3, 4, 5)}, {"too many numbers", false, fixed(1, 2, 3, 4, 5, 6, 7)}, {"no numbers", false, fixed()}, {"the greatest number", true, fixed(0, 0, 0, 0, 0, impl.Prime-1)},
		{"Prime", false, fixed(0, 0, 0, 0, 0, impl.Prime)}, {"below 0", false, fixed(-1, 0, 0, 0, 0, 0)}, {"far below 0", false, fixed(0, 0, math.MinInt, 0, 0, 0)}, {"far above", false, fixed(0, 0, math.MaxInt, 0, 0, 0)},
		{"a Fix of size 0", true, another(3)}, {"two of size 0", false, func(l *impl.Nest) { another(3)(l); another(3)(l) }}, {"a Fix of size 0 with a number", false, another(3, 1)},
		{"two of one buffer", false, another(1, 1, 2, 3, 4, 5, 6)}, {"one of Ins", false, another(0, 1, 2, 3, 4, 5, 6)}, {"a Fix that is stored in", false, another(2, 1, 2, 3, 4, 5, 6)}, {"a Fix past the last", false, another(5)}, {"a Fix below 0", false, another(-1)},
		{"no Fix", true, func(l *impl.Nest) { l.Fixed = nil }}, {"a great Fix", true, another(4, noughts(4096)...)}, {"a great Fix with one more", false, another(4, noughts(4097)...)},
		{"the Fix of a buffer that is none", false, func(l *impl.Nest) { l.Fixed[0].Buffer = 77 }}, {"the Fix of an In's buffer", false, func(l *impl.Nest) { l.Fixed[0].Buffer = 0 }},
	})
	wide := impl.Nest{Sizes: noughts(50), Ins: firstNumbers(40), Outs: firstNumbers(40)}
	checkChanges(t, wide, []nestChange{
		{"41 Ins", false, ins(firstNumbers(41)...)}, {"39 Ins", true, ins(firstNumbers(39)...)}, {"41 Outs", false, outs(firstNumbers(41)...)}, {"the last In once more", false, ins(append(firstNumbers(39), 0)...)},
		{"another In", true, ins(append(firstNumbers(39), 49)...)}, {"an In that is no buffer", false, ins(append(firstNumbers(39), 50)...)}, {"an Out that is no buffer", false, outs(append(firstNumbers(39), 50)...)},
	})
}

func inKernel(change func(k *impl.Kernel)) func(l *impl.Nest) {
	return func(l *impl.Nest) { change(&l.Kernels[0]) }
}

func TestNestOkOfLoads(t *testing.T) {
	one := nestIn("sizes 12 12 5 0 4096\nin 0\nfor 3 4: 0@0(4 1) -> 1@0(4 1): load 0\nout 1")
	load := func(text string) func(l *impl.Nest) {
		return inKernel(func(k *impl.Kernel) { k.Loads = accessesIn(text) })
	}
	store := func(text string) func(l *impl.Nest) {
		return inKernel(func(k *impl.Kernel) { k.Store = accessesIn(text)[0] })
	}
	most := strconv.Itoa(math.MaxInt)
	least := strconv.Itoa(math.MinInt)
	changes := []nestChange{
		{"another buffer", true, load("2@1(0 1)")}, {"a buffer past the last", false, load("5@0(0 0)")}, {"a buffer below 0", false, load("-1@0(0 0)")}, {"a buffer of size 0", false, load("3@0(0 0)")},
		{"the Store's buffer", false, load("1@0(4 1)")}, {"the Store's buffer behind another", false, load("0@0(4 1) 1@0(4 1)")}, {"the Store in Ins", false, store("0@0(4 1)")}, {"the Store in the buffer of size 0", false, store("3@0(0 0)")},
		{"too few steps", false, load("0@0(4)")}, {"no steps", false, load("0@0()")}, {"too many steps", false, load("0@0(4 1 0)")}, {"too few steps of the Store", false, store("1@0(4)")}, {"too many steps of the Store", false, store("1@0(4 1 0)")}, {"no steps of the Store", false, store("1@0()")},
		{"steps 0", true, load("0@11(0 0)")}, {"one past the end", false, load("0@12(0 0)")}, {"one before the beginning", false, load("0@-1(0 0)")}, {"all but the first", false, load("0@1(4 1)")}, {"all but the last", false, load("0@-1(4 1)")},
		{"backwards", true, load("0@11(-4 -1)")}, {"backwards, one before", false, load("0@10(-4 -1)")}, {"backwards, one past", false, load("0@12(-4 -1)")}, {"both ways", true, load("0@8(-4 1)")}, {"both ways from 3", true, load("0@3(4 -1)")},
		{"both ways, past the end", false, load("0@9(-4 1)")}, {"both ways, before the beginning", false, load("0@7(-4 1)")}, {"within, then before", false, load("0@3(4 -2)")}, {"a step too far", false, load("0@0(5 1)")}, {"the last step too far", false, load("0@0(4 2)")}, {"just at the end", true, load("0@0(1 3)")},
		{"just at the end, with an offset", true, load("0@2(3 1)")}, {"past the end, with an offset", false, load("0@3(3 1)")}, {"the Store past the end", false, store("1@1(4 1)")}, {"the Store before the beginning", false, store("1@-1(4 1)")}, {"the Store backwards", true, store("1@11(-4 -1)")}, {"the Store met twice", true, store("1@0(0 0)")},
		{"a great Offset", false, load("0@" + most + "(0 0)")}, {"a great Offset below 0", false, load("0@" + least + "(0 0)")}, {"a great step", false, load("0@0(" + most + " 0)")}, {"a great step below 0", false, load("0@0(" + least + " 0)")}, {"steps that add up to 0", false, load("0@0(" + most + " -" + most + ")")},
		{"half of all ints", false, load("0@4(" + least + " 4)")}, {"a third of all ints", false, load("0@1(0 " + strconv.Itoa(math.MinInt/3*2) + ")")},
		{"an Offset and a step that wrap", false, load("0@" + most + "(1 1)")}, {"an Offset below 0 and a step that wrap", false, load("0@" + least + "(-1 -1)")}, {"an Offset that steps undo", false, load("0@-4(4 4)")}, {"the Store with a great Offset", false, store("1@" + most + "(1 1)")}, {"the Store with a great step", false, store("1@0(" + least + " 0)")},
		{"a quarter of all ints", false, load("0@0(0 " + strconv.Itoa(1<<62) + ")")}, {"no Load, but a KLoad", false, load("")}, {"a Load that no KLoad has", true, load("0@0(4 1) 2@0(1 0)")}, {"a wrong Load that no KLoad has", false, load("0@0(4 1) 2@0(2 1)")},
		{"30 Loads", true, load(strings.Repeat("0@0(4 1) ", 30))}, {"31 Loads", false, load(strings.Repeat("0@0(4 1) ", 31))}, {"the thirtieth of the Store's buffer", false, load(strings.Repeat("0@0(4 1) ", 29) + "1@0(4 1)")},
	}
	for _, x := range wrongInts() {
		text := strconv.Itoa(x)
		changes = append(changes, nestChange{"buffer " + text, false, load(text + "@0(4 1)")}, nestChange{"Offset " + text, false, load("0@" + text + "(0 0)")}, nestChange{"the Store's Offset " + text, false, store("1@" + text + "(4 1)")}, nestChange{"the Store's buffer " + text, false, store(text + "@0(4 1)")})
		if x < -2 || x > 0 {
			changes = append(changes, nestChange{"step " + text, false, load("0@4(" + text + " 0)")}, nestChange{"the Store's step " + text, false, store("1@4(" + text + " 0)")})
		}
	}
	checkChanges(t, one, changes)
	checkChanges(t, plainNest(), []nestChange{
		{"a Store in a buffer of Fixed", false, store("1@0(1 2)")}, {"a Store in a buffer of Ins", false, store("0@0(1 2)")},
		{"a Load of the Store's buffer", false, inKernel(func(k *impl.Kernel) { k.Loads[1].Buffer = 2 })}, {"another Store", true, store("4@4090(1 2)")}, {"another Store, past the end", false, store("4@4091(1 2)")},
	})
}

func TestNestOkOfLoops(t *testing.T) {
	one := nestIn("sizes 4096 4096\nin 0\nfor 2: 0@0(0) -> 1@0(0): load 0\nout 1")
	loops := func(lengths ...int) func(l *impl.Nest) {
		return inKernel(func(k *impl.Kernel) {
			k.Loops, k.Loads[0].Steps, k.Store.Steps = lengths, noughts(len(lengths)), noughts(len(lengths))
		})
	}
	stepped := func(length int, load int, store int) func(l *impl.Nest) {
		return inKernel(func(k *impl.Kernel) {
			k.Loops, k.Loads[0].Steps, k.Store.Steps = ints(length), ints(load), ints(store)
		})
	}
	changes := []nestChange{
		{"no loops", true, loops()}, {"a loop of 1", true, loops(1)}, {"a loop of 0", false, loops(0)}, {"a loop below 0", false, loops(-1)}, {"two below 0", false, loops(-2, -3)}, {"one of 0 among others", false, loops(3, 0, 3)},
		{"12 loops", true, loops(slices.Repeat(ints(1), 12)...)}, {"13 loops", false, loops(slices.Repeat(ints(1), 13)...)}, {"12 loops of 2", true, loops(slices.Repeat(ints(2), 12)...)}, {"12 loops of 3", false, loops(slices.Repeat(ints(3), 12)...)},
		{"MaxWork", true, loops(65536)}, {"MaxWork by many", true, loops(16, 16, 256)}, {"one more than MaxWork", false, loops(65537)}, {"more than MaxWork by two", false, loops(257, 256)}, {"just less", true, loops(255, 257)}, {"a great product", false, loops(65536, 2)},
		{"a product that passes an int", false, loops(1<<32, 1<<32)}, {"a product that comes to 1", false, loops(3, (1<<62)/3*2+1)}, {"a product that comes round", false, loops(1<<62, 4)}, {"the greatest length", false, loops(math.MaxInt)}, {"the least length", false, loops(math.MinInt)}, {"two that come to 2", false, loops(math.MinInt, math.MinInt, 2)},
		{"12 great lengths", false, loops(slices.Repeat(ints(1<<16), 12)...)}, {"a product below 0", false, loops(-1, -6)},
		{"a step of a loop of 1", false, stepped(1, 1, 0)}, {"a step below 0 of a loop of 1", false, stepped(1, -1, 0)}, {"a great step of a loop of 1", false, stepped(1, math.MinInt, 0)}, {"the Store's step of a loop of 1", false, stepped(1, 0, 1)}, {"no step of a loop of 1", true, stepped(1, 0, 0)},
		{"all of a buffer", true, stepped(4096, 1, 1)}, {"one more", false, stepped(4097, 1, 0)}, {"one more for the Store", false, stepped(4097, 0, 1)}, {"each second", true, stepped(2048, 2, 2)}, {"each second, one more", false, stepped(2049, 2, 0)}, {"the greatest step", true, stepped(2, 4095, 4095)}, {"a step past the end", false, stepped(2, 4096, 0)},
	}
	checkChanges(t, one, changes)
	none := nestIn("sizes 1 1\nin 0\nfor: 0@0() -> 1@0(): load 0\nout 1")
	checkChanges(t, none, []nestChange{
		{"an Offset past the end", false, inKernel(func(k *impl.Kernel) { k.Loads[0].Offset = 1 })}, {"the Store's Offset past the end", false, inKernel(func(k *impl.Kernel) { k.Store.Offset = 1 })},
		{"an Offset below 0", false, inKernel(func(k *impl.Kernel) { k.Loads[0].Offset = -1 })}, {"a step", false, inKernel(func(k *impl.Kernel) { k.Loads[0].Steps = ints(0) })}, {"no Loads", false, inKernel(func(k *impl.Kernel) { k.Loads = nil })},
		{"no Loads, a const", true, inKernel(func(k *impl.Kernel) { k.Loads, k.Code = nil, codeIn("const 3") })},
	})
}

func TestNestOkOfCode(t *testing.T) {
	one := nestIn("sizes 2 2 2\nin 0 1\nfor 2: 0@0(1) 1@0(1) -> 2@0(1): load 0, load 1, add 0 1\nout 2")
	code := func(text string) func(l *impl.Nest) { return inKernel(func(k *impl.Kernel) { k.Code = codeIn(text) }) }
	changes := []nestChange{
		{"no step", false, code("")}, {"60 steps", true, code(strings.Repeat("load 1,", 60))}, {"61 steps", false, code(strings.Repeat("load 1,", 61))}, {"60 that lean on each other", true, code("load 0" + strings.Repeat(", neg 0", 59))},
		{"a Load that is not there", false, code("load 2")}, {"a Load below 0", false, code("load -1")}, {"the last Load", true, code("load 1")}, {"a load with B", false, code("load 0 1")}, {"a load with B below 0", false, code("load 0 -1")},
		{"the greatest const", true, code("const 2147483646")}, {"Prime", false, code("const 2147483647")}, {"a const below 0", false, code("const -1")}, {"0", true, code("const 0")}, {"a const with B", false, code("const 0 1")},
	}
	for _, word := range calcWords()[3:6] {
		for _, row := range []struct {
			text string
			ok   bool
		}{{"0 0", true}, {"0 1", true}, {"1 0", true}, {"1 1", true}, {"2 0", false}, {"0 2", false}, {"3 0", false}, {"0 3", false}, {"-1 0", false}, {"0 -1", false}, {"60 0", false}} {
			changes = append(changes, nestChange{word + " " + row.text, row.ok, code("load 0, load 1, " + word + " " + row.text + ", load 0")})
		}
		changes = append(changes, nestChange{word + " first", false, code(word + " 0 0")})
	}
	for _, word := range calcWords()[6:] {
		for _, row := range []struct {
			text string
			ok   bool
		}{{"0", true}, {"1", true}, {"2", false}, {"3", false}, {"-1", false}, {"0 1", false}, {"0 -1", false}, {"1 1", false}} {
			changes = append(changes, nestChange{word + " " + row.text, row.ok, code("load 0, load 1, " + word + " " + row.text + ", load 0")})
		}
		changes = append(changes, nestChange{word + " first", false, code(word + " 0")})
	}
	last := func(op int, a int, b int) func(l *impl.Nest) {
		return inKernel(func(k *impl.Kernel) { k.Code[2] = impl.Calc{Op: op, A: a, B: b} })
	}
	for _, op := range append(wrongInts(), 0, 10, 11, 1<<32+3) {
		changes = append(changes, nestChange{"an Op that is none", false, last(op, 0, 0)})
	}
	for op := 1; op <= 9; op++ {
		for _, x := range wrongInts() {
			ok := op == 2 && x == 4097
			changes = append(changes, nestChange{"a wrong A", ok, last(op, x, 0)}, nestChange{"a wrong B", false, last(op, 0, x)}, nestChange{"both wrong", false, last(op, x, x)})
		}
	}
	checkChanges(t, one, changes)
}

func TestNestOkOfKernels(t *testing.T) {
	one := nestIn("sizes 1 1\nin 0\nfor: 0@0() -> 1@0(): load 0\nout 1")
	often := func(count int, loops ...int) func(l *impl.Nest) {
		return func(l *impl.Nest) {
			k := impl.Kernel{Loops: loops, Store: impl.Access{Buffer: 1, Steps: noughts(len(loops))}, Code: codeIn("const 1")}
			l.Kernels = append(l.Kernels, slices.Repeat([]impl.Kernel{k}, count)...)
		}
	}
	both := func(changes ...func(l *impl.Nest)) func(l *impl.Nest) {
		return func(l *impl.Nest) {
			for _, change := range changes {
				change(l)
			}
		}
	}
	checkChanges(t, one, []nestChange{
		{"400 kernels", true, often(399)}, {"401 kernels", false, often(400)}, {"1000 kernels", false, often(999)}, {"no kernels", true, func(l *impl.Nest) { l.Kernels = nil }},
		{"MaxAll", true, both(often(15, 65536), often(1, 16959))}, {"one more than MaxAll", false, both(often(15, 65536), often(1, 16960))}, {"MaxAll by 400 kernels", true, both(often(398, 2506), often(1, 2611))}, {"one more by 400 kernels", false, both(often(398, 2506), often(1, 2612))},
		{"16 of MaxWork", false, often(16, 65536)}, {"400 of MaxWork", false, often(399, 65536)}, {"by two loops", true, both(often(15, 256, 256), often(1, 16959))}, {"by two loops, one more", false, both(often(15, 256, 256), often(1, 16960))},
		{"a wrong one last", false, both(often(3), often(1, 0))}, {"a wrong one first", false, func(l *impl.Nest) { often(3)(l); l.Kernels[0].Code = nil }}, {"a wrong one between", false, func(l *impl.Nest) { often(3)(l); l.Kernels[2].Store.Buffer = 0 }},
	})
}

// wantReckoned gives the numbers of the steps of Code, with those that the Loads
// have.
func wantReckoned(code []impl.Calc, loaded []int) []int {
	numbers := []int{}
	for _, c := range code {
		x := c.A
		switch {
		case c.Op == 1:
			x = loaded[c.A]
		case c.Op >= 3 && c.Op <= 5:
			x, _ = wantTwo(c.Op-2, numbers[c.A], numbers[c.B])
		case c.Op >= 6:
			x, _ = wantOne(c.Op-5, numbers[c.A])
		}
		numbers = append(numbers, x)
	}
	return numbers
}

// placesOf gives the places of an access at all indexes, found by counting.
func placesOf(a impl.Access, loops []int) []int {
	places := ints(a.Offset)
	for at, length := range loops {
		wider := []int{}
		for _, place := range places {
			for i := range length {
				wider = append(wider, place+i*a.Steps[at])
			}
		}
		places = wider
	}
	return places
}

// wantRun says what the document says of RunNest; nil for nothing.
func wantRun(l impl.Nest, ins [][]int) [][]int {
	if !wantNestOk(l) || len(ins) != len(l.Ins) {
		return nil
	}
	buffers := map[int][]int{}
	for b, size := range l.Sizes {
		buffers[b] = noughts(size)
	}
	for at, b := range l.Ins {
		if len(ins[at]) != l.Sizes[b] || slices.ContainsFunc(ins[at], func(x int) bool { return x < 0 || x > 2147483646 }) {
			return nil
		}
		buffers[b] = slices.Clone(ins[at])
	}
	for _, f := range l.Fixed {
		buffers[f.Buffer] = slices.Clone(f.Data)
	}
	for _, k := range l.Kernels {
		from := [][]int{}
		for _, load := range k.Loads {
			from = append(from, placesOf(load, k.Loops))
		}
		for number, to := range placesOf(k.Store, k.Loops) {
			loaded := []int{}
			for at, load := range k.Loads {
				loaded = append(loaded, buffers[load.Buffer][from[at][number]])
			}
			x := wantReckoned(k.Code, loaded)[len(k.Code)-1]
			if k.Sum {
				x = moduloPrime(x + buffers[k.Store.Buffer][to])
			}
			buffers[k.Store.Buffer][to] = x
		}
	}
	outs := [][]int{}
	for _, b := range l.Outs {
		outs = append(outs, slices.Clone(buffers[b]))
	}
	return outs
}

func sameLists(a [][]int, b [][]int) bool { return slices.EqualFunc(a, b, slices.Equal[[]int]) }

func checkRun(t *testing.T, l impl.Nest, ins [][]int) [][]int {
	t.Helper()
	got, want := impl.RunNest(l, ins), wantRun(l, ins)
	if !sameLists(got, want) {
		t.Fatalf("RunNest of\n%sat %v is %v, not %v", nestText(l), ins, got, want)
	}
	return got
}

// insFor are numbers for the Ins of a nest.
func insFor(source *rand.Rand, l impl.Nest) [][]int {
	ins := [][]int{}
	for _, b := range l.Ins {
		numbers := []int{}
		for range l.Sizes[b] {
			numbers = append(numbers, randomNumber(source))
		}
		ins = append(ins, numbers)
	}
	return ins
}

// A nestMaker makes nests that are NestOk, in which much can be fused, and much
// nearly; way has for each buffer the loops of the kernel that stored in it
// first, which are one of shapes.
type nestMaker struct {
	source *rand.Rand
	shapes [][]int
	l      impl.Nest
	given  []bool
	ways   [][]int
}

// randomNest is a nest that is NestOk, of small buffers.
func randomNest(source *rand.Rand) impl.Nest {
	return nestOver(source, [][]int{{}, {2}, {3}, {4}, {2, 3}, {2, 3}, {3, 2}, {2, 2}, {2, 2}, {1, 3}, {3, 1}, {1}, {2, 1, 2}, {2, 2, 2}, {1, 1, 2}, {2, 3, 2}})
}

// nestOver is a nest that is NestOk, with loops of these shapes.
func nestOver(source *rand.Rand, shapes [][]int) impl.Nest {
	m := &nestMaker{source: source, shapes: shapes}
	for range 1 + source.Intn(3) {
		loops := m.loops()
		b := m.buffer(loops)
		m.given[b] = true
		if source.Intn(3) > 0 {
			m.l.Ins = append(m.l.Ins, b)
			continue
		}
		numbers := []int{}
		for range m.l.Sizes[b] {
			numbers = append(numbers, randomNumber(source))
		}
		m.l.Fixed = append(m.l.Fixed, impl.Fix{Buffer: b, Data: numbers})
	}
	for range source.Intn(6) {
		m.kernel()
	}
	if source.Intn(8) == 0 {
		source.Shuffle(len(m.l.Kernels), func(i int, j int) { m.l.Kernels[i], m.l.Kernels[j] = m.l.Kernels[j], m.l.Kernels[i] })
	}
	for range 1 + source.Intn(2) {
		m.l.Outs = append(m.l.Outs, source.Intn(len(m.l.Sizes)))
	}
	if len(m.l.Kernels) > 0 && source.Intn(4) > 0 {
		m.l.Outs[0] = m.l.Kernels[len(m.l.Kernels)-1].Store.Buffer
	}
	return m.l
}

func (m *nestMaker) loops() []int { return slices.Clone(m.shapes[m.source.Intn(len(m.shapes))]) }

// buffer puts a buffer that has a number for each index of the loops.
func (m *nestMaker) buffer(loops []int) int {
	size := 1
	for _, length := range loops {
		size *= length
	}
	if m.source.Intn(12) == 0 {
		size += m.source.Intn(3)
	}
	m.l.Sizes, m.given, m.ways = append(m.l.Sizes, size), append(m.given, false), append(m.ways, loops)
	return len(m.l.Sizes) - 1
}

// access goes through buffer b: often as it was stored, some loops perhaps
// changed with each other.
func (m *nestMaker) access(b int, loops []int) impl.Access {
	plain := plainOf(m.ways[b])
	for range 30 {
		a := impl.Access{Buffer: b, Steps: noughts(len(loops))}
		left := firstNumbers(len(plain))
		for _, at := range m.source.Perm(len(loops)) {
			fit := slices.IndexFunc(left, func(way int) bool { return m.ways[b][way] == loops[at] })
			if fit >= 0 && m.source.Intn(8) > 0 {
				a.Steps[at] = plain[left[fit]]
				left = slices.Delete(left, fit, fit+1)
			}
		}
		if m.source.Intn(5) == 0 && len(loops) > 0 {
			a.Steps[m.source.Intn(len(loops))] = m.source.Intn(5) - 2
		}
		if m.source.Intn(6) == 0 {
			a.Offset = m.source.Intn(max(1, m.l.Sizes[b]))
		}
		if wantAccess(a, loops, m.l.Sizes) {
			return a
		}
	}
	return impl.Access{Buffer: b, Offset: m.source.Intn(m.l.Sizes[b]), Steps: noughts(len(loops))}
}

func (m *nestMaker) kernel() {
	k := impl.Kernel{Loops: m.loops(), Sum: m.source.Intn(5) == 0}
	if last := len(m.ways) - 1; m.source.Intn(2) == 0 {
		k.Loops = slices.Clone(m.ways[last])
		if m.source.Intn(3) == 0 {
			k.Loops = append(k.Loops, 2)
		}
	}
	for range 1 + m.source.Intn(3) {
		b := len(m.l.Sizes) - 1
		if m.source.Intn(2) == 0 {
			b = m.source.Intn(b + 1)
		}
		k.Loads = append(k.Loads, m.access(b, k.Loops))
		if m.source.Intn(4) == 0 {
			k.Loads = append(k.Loads, m.access(b, k.Loops))
		}
	}
	b := m.source.Intn(len(m.l.Sizes))
	loaded := slices.ContainsFunc(k.Loads, func(load impl.Access) bool { return load.Buffer == b })
	if m.source.Intn(6) > 0 || loaded || m.given[b] {
		b = m.buffer(slices.Clone(k.Loops))
		k.Store = impl.Access{Buffer: b, Steps: plainOf(k.Loops)}
	}
	if m.source.Intn(8) == 0 || k.Store.Steps == nil {
		k.Store = m.access(b, k.Loops)
	}
	k.Code = m.code(len(k.Loads))
	m.l.Kernels = append(m.l.Kernels, k)
}

func (m *nestMaker) code(loads int) []impl.Calc {
	code := []impl.Calc{}
	for at := range 1 + m.source.Intn(6) {
		op := 1 + m.source.Intn(9)
		if at == 0 || m.source.Intn(2) == 0 {
			op = 1
		}
		c := impl.Calc{Op: op}
		switch {
		case op == 1:
			c.A = m.source.Intn(loads)
		case op == 2:
			c.A = randomNumber(m.source)
		default:
			c.A = m.source.Intn(at)
		}
		if op >= 3 && op <= 5 {
			c.B = m.source.Intn(at)
		}
		code = append(code, c)
	}
	return code
}

func someNests(count int, seed int64) []impl.Nest {
	source := rand.New(rand.NewSource(seed))
	nests := []impl.Nest{}
	for range count {
		nests = append(nests, randomNest(source))
	}
	return nests
}

// plainOf are the plain steps of lengths.
func plainOf(lengths []int) []int {
	steps := noughts(len(lengths))
	for at, length := range lengths {
		if length == 1 {
			continue
		}
		steps[at] = 1
		for _, behind := range lengths[at+1:] {
			steps[at] *= behind
		}
	}
	return steps
}

func TestNestOkAndRunNestOfRandomNests(t *testing.T) {
	source := rand.New(rand.NewSource(151))
	for _, l := range someNests(800, 152) {
		if !checkNestOk(t, l) {
			t.Fatalf("what was made is refused:\n%s", nestText(l))
		}
		checkRun(t, l, insFor(source, l))
	}
}

// spoiltNest is a nest of which one number has changed, or one list is longer
// or shorter.
func spoiltNest(source *rand.Rand, l impl.Nest) impl.Nest {
	l = copiedNest(l)
	lists := []*[]int{&l.Sizes, &l.Ins, &l.Outs}
	for at := range l.Fixed {
		lists = append(lists, &l.Fixed[at].Data)
	}
	numbers := []*int{}
	for at := range l.Kernels {
		k := &l.Kernels[at]
		lists = append(lists, &k.Loops, &k.Store.Steps)
		numbers = append(numbers, &k.Store.Buffer, &k.Store.Offset)
		for i := range k.Loads {
			lists = append(lists, &k.Loads[i].Steps)
			numbers = append(numbers, &k.Loads[i].Buffer, &k.Loads[i].Offset)
		}
		for i := range k.Code {
			numbers = append(numbers, &k.Code[i].Op, &k.Code[i].A, &k.Code[i].B)
		}
	}
	list := lists[source.Intn(len(lists))]
	for at := range *list {
		numbers = append(numbers, &(*list)[at])
	}
	switch kind := source.Intn(8); {
	case kind == 0:
		*list = append(*list, source.Intn(5)-1)
	case kind == 1 && len(*list) > 0:
		*list = (*list)[:len(*list)-1]
	case kind == 2 && len(numbers) > 0:
		others := append(wrongInts(), 0, impl.Prime)
		*numbers[source.Intn(len(numbers))] = others[source.Intn(len(others))]
	case len(numbers) > 0:
		*numbers[source.Intn(len(numbers))] += source.Intn(5) - 2
	}
	return l
}

func TestNestOkOfSpoiltNests(t *testing.T) {
	source := rand.New(rand.NewSource(153))
	good, wrong := 0, 0
	for _, l := range someNests(500, 154) {
		for range 12 {
			spoilt := spoiltNest(source, l)
			if !checkNestOk(t, spoilt) {
				wrong++
				continue
			}
			good++
			checkRun(t, spoilt, insFor(source, spoilt))
		}
	}
	if good < 1000 || wrong < 2000 {
		t.Errorf("%d are taken, %d refused", good, wrong)
	}
}

func TestRunNestRows(t *testing.T) {
	p := impl.Prime
	turns := (p - 1) / 2
	rows := []struct {
		nest string
		ins  [][]int
		want [][]int
	}{
		{"sizes", nil, nil},
		{"sizes 2 0\nin 0\nout 1 0 1 0", [][]int{{5, 6}}, [][]int{{}, {5, 6}, {}, {5, 6}}},
		{"sizes 2 3\nin 1 0\nout 0 1", [][]int{{1, 2, 3}, {4, 5}}, [][]int{{4, 5}, {1, 2, 3}}},
		{"sizes 2 3\nfix 1 7 8 9\nout 1 0", nil, [][]int{{7, 8, 9}, {0, 0}}},
		{"sizes 0\nin 0\nout 0", [][]int{{}}, [][]int{{}}}, {"sizes 0\nin 0\nout 0", [][]int{nil}, [][]int{{}}},
		// A nest without Outs.
		{"sizes 2 2\nin 0\nfor 2: 0@0(1) -> 1@0(1): load 0", [][]int{{5, 6}}, nil},
		// Each Op.
		{"sizes 6 6\nin 0\nfor 6: 0@0(1) -> 1@0(1): load 0, neg 0\nout 1", [][]int{{0, 1, 2, p - 1, turns, turns + 1}}, [][]int{{0, p - 1, p - 2, 1, turns + 1, turns}}},
		{"sizes 6 6\nin 0\nfor 6: 0@0(1) -> 1@0(1): load 0, inv 0\nout 1", [][]int{{0, 1, 2, p - 1, turns, turns + 1}}, [][]int{{0, 1, turns + 1, p - 1, p - 2, 2}}},
		{"sizes 6 6\nin 0\nfor 6: 0@0(1) -> 1@0(1): load 0, step 0\nout 1", [][]int{{0, 1, 2, p - 1, turns, turns + 1}}, [][]int{{0, 1, 1, 0, 1, 0}}},
		{"sizes 6 6\nin 0\nfor 6: 0@0(1) -> 1@0(1): load 0, relu 0\nout 1", [][]int{{0, 1, 2, p - 1, turns, turns + 1}}, [][]int{{0, 1, 2, 0, turns, 0}}},
		{"sizes 3 3 3\nin 0 1\nfor 3: 0@0(1) 1@0(1) -> 2@0(1): load 1, load 0, add 0 1\nout 2", [][]int{{p - 1, 2, 3}, {p - 1, p - 2, 4}}, [][]int{{p - 2, 0, 7}}},
		{"sizes 3 3 3\nin 0 1\nfor 3: 0@0(1) 1@0(1) -> 2@0(1): load 1, load 0, sub 1 0\nout 2", [][]int{{1, 2, 3}, {p - 1, 5, 3}}, [][]int{{2, p - 3, 0}}},
		{"sizes 3 3 3\nin 0 1\nfor 3: 0@0(1) 1@0(1) -> 2@0(1): load 0, load 1, mul 0 1\nout 2", [][]int{{p - 1, 2, 3}, {p - 1, turns, 0}}, [][]int{{1, p - 1, 0}}},
		{"sizes 2\nfor 2: -> 0@0(1): const 2147483646\nout 0", nil, [][]int{{p - 1, p - 1}}},
		// The last step is what counts, though others are not needed.
		{"sizes 1 1\nin 0\nfor: 0@0() -> 1@0(): load 0, const 3, mul 0 1, const 9\nout 1", [][]int{{5}}, [][]int{{9}}},
		{"sizes 1 1\nin 0\nfor: 0@0() -> 1@0(): load 0, const 3, mul 0 1, load 0, sub 2 3\nout 1", [][]int{{5}}, [][]int{{10}}},
		// A place that is met twice: the last stays, or all are added up.
		{"sizes 3 1\nin 0\nfor 3: 0@0(1) -> 1@0(0): load 0\nout 1", [][]int{{5, 6, 7}}, [][]int{{7}}},
		{"sizes 3 1\nin 0\nfor 3: 0@2(-1) -> 1@0(0): load 0\nout 1", [][]int{{5, 6, 7}}, [][]int{{5}}},
		{"sizes 3 1\nin 0\nfor 3: 0@0(1) +> 1@0(0): load 0\nout 1", [][]int{{5, 6, 7}}, [][]int{{18}}},
		{"sizes 3 1\nin 0\nfor 3: 0@0(1) +> 1@0(0): load 0\nout 1", [][]int{{p - 1, p - 1, 1}}, [][]int{{p - 1}}},
		{"sizes 4 2\nin 0\nfor 2 2: 0@0(2 1) -> 1@0(0 1): load 0\nout 1", [][]int{{5, 6, 7, 8}}, [][]int{{7, 8}}},
		{"sizes 4 2\nin 0\nfor 2 2: 0@0(2 1) -> 1@0(1 0): load 0\nout 1", [][]int{{5, 6, 7, 8}}, [][]int{{6, 8}}},
		{"sizes 4 3\nin 0\nfor 2 2: 0@0(2 1) +> 1@0(1 1): load 0\nout 1", [][]int{{5, 6, 7, 8}}, [][]int{{5, 13, 8}}},
		{"sizes 4 3\nin 0\nfor 2 2: 0@0(2 1) -> 1@0(1 1): load 0\nout 1", [][]int{{5, 6, 7, 8}}, [][]int{{5, 7, 8}}},
		// The last loop runs fastest.
		{"sizes 6 6\nin 0\nfor 2 3: 0@0(3 1) -> 1@0(1 2): load 0\nout 1", [][]int{{1, 2, 3, 4, 5, 6}}, [][]int{{1, 4, 2, 5, 3, 6}}},
		{"sizes 6 6\nin 0\nfor 2 3: 0@5(-3 -1) -> 1@0(3 1): load 0\nout 1", [][]int{{1, 2, 3, 4, 5, 6}}, [][]int{{6, 5, 4, 3, 2, 1}}},
		{"sizes 3 8\nin 0\nfor 3: 0@0(1) -> 1@1(3): load 0\nout 1", [][]int{{1, 2, 3}}, [][]int{{0, 1, 0, 0, 2, 0, 0, 3}}},
		// Kernels one after the other: what was stored is there, with Sum too.
		{"sizes 2 2\nin 0\nfor 2: 0@0(1) -> 1@0(1): load 0\nfor 2: 0@0(1) +> 1@0(1): load 0\nfor 2: 0@0(1) +> 1@0(1): load 0\nout 1", [][]int{{5, p - 1}}, [][]int{{15, p - 3}}},
		{"sizes 2 2\nin 0\nfor 2: 0@0(1) +> 1@0(1): load 0\nfor 2: 0@0(1) -> 1@0(1): load 0\nout 1", [][]int{{5, 6}}, [][]int{{5, 6}}},
		{"sizes 2 2 2\nin 0\nfor 2: 1@0(1) -> 2@0(1): load 0, const 1, add 0 1\nfor 2: 2@0(1) -> 1@0(1): load 0, const 1, add 0 1\nfor 2: 1@0(1) -> 2@1(0): load 0, const 1, add 0 1\nout 2 1 0", [][]int{{5, 6}}, [][]int{{1, 3}, {2, 2}, {5, 6}}},
		{"sizes 1 1\nin 0\nfor 1 1: 0@0(0 0) -> 1@0(0 0): load 0\nout 1", [][]int{{5}}, [][]int{{5}}},
	}
	for _, row := range rows {
		if got := checkRun(t, nestIn(row.nest), row.ins); !sameLists(got, row.want) {
			t.Errorf("RunNest of\n%s\nat %v is %v, not %v", row.nest, row.ins, got, row.want)
		}
	}
}

func TestRunNestOfWrongIns(t *testing.T) {
	l := nestIn("sizes 2 3 2 0\nin 1 0 3\nfor 2: 0@0(1) 1@0(1) -> 2@0(1): load 0, load 1, add 0 1\nout 2 3 2")
	right := [][]int{{1, 2, 3}, {4, 5}, {}}
	if got := checkRun(t, l, right); !sameLists(got, [][]int{{5, 7}, {}, {5, 7}}) {
		t.Errorf("RunNest is %v", got)
	}
	wrong := [][][]int{nil, {{1, 2, 3}}, {{1, 2, 3}, {4, 5}}, {{1, 2, 3}, {4, 5}, {}, {}}, {{4, 5}, {1, 2, 3}, {}}, {{1, 2}, {4, 5}, {}}, {{1, 2, 3, 4}, {4, 5}, {}}, {{1, 2, 3}, {4}, {}}, {{1, 2, 3}, {4, 5, 6}, {}}, {{1, 2, 3}, {4, 5}, {0}}, {nil, {4, 5}, {}}, {{1, 2, 3}, nil, nil}}
	for _, x := range ints(-1, impl.Prime, impl.Prime+1, math.MinInt, math.MaxInt) {
		// The last number of the first is one that no kernel loads.
		wrong = append(wrong, [][]int{{x, 2, 3}, {4, 5}, {}}, [][]int{{1, 2, x}, {4, 5}, {}}, [][]int{{1, 2, 3}, {4, x}, {}}, [][]int{{1, 2, 3}, {x, 5}, {}})
	}
	for _, ins := range wrong {
		if got := checkRun(t, l, ins); len(got) > 0 {
			t.Errorf("at %v RunNest is %v", ins, got)
		}
	}
	edge := [][]int{{0, impl.Prime - 1, 0}, {impl.Prime - 1, impl.Prime - 1}, nil}
	if got := checkRun(t, l, edge); !sameLists(got, [][]int{{impl.Prime - 1, impl.Prime - 2}, {}, {impl.Prime - 1, impl.Prime - 2}}) {
		t.Errorf("at the greatest numbers RunNest is %v", got)
	}
	if got := impl.RunNest(impl.Nest{}, [][]int{{}}); len(got) > 0 {
		t.Errorf("of the empty nest comes %v", got)
	}
}

// Much work, at each of the limits.
func TestRunNestAtLimits(t *testing.T) {
	source := rand.New(rand.NewSource(155))
	wide := nestIn("sizes 4096 4096 1\nin 0\nfor 16 16 256: 0@0(256 0 1) 0@4095(0 -256 -1) +> 1@0(256 0 1): load 0, load 1, mul 0 1\nfor 65536: +> 2@0(0): const 40000\nout 1 2")
	deep := nestIn("sizes 4096 4096\nin 0\nfor 2 2 2 2 2 2 2 2 2 2 2 2: 0@0(1 2 4 8 16 32 64 128 256 512 1024 2048) -> 1@0(2048 1024 512 256 128 64 32 16 8 4 2 1): load 0, neg 0\nout 1")
	for _, l := range []impl.Nest{wide, deep} {
		checkRun(t, l, insFor(source, l))
	}
	full := nestIn("sizes 2 2\nin 0\nfor 2: " + strings.Repeat("0@0(1) ", 30) + "-> 1@0(1): load 29" + strings.Repeat(", load 29, add 0 1", 29) + ", neg 0\nout 1")
	full.Kernels[0].Code[59] = impl.Calc{Op: impl.KInv, A: 58}
	if got := checkRun(t, full, [][]int{{3, 0}}); !sameLists(got, [][]int{{impl.Inverse(6), 0}}) {
		t.Errorf("60 steps give %v", got)
	}
	many := nestIn("sizes 1 1\nin 0\nout 1")
	for range 400 {
		many.Kernels = append(many.Kernels, kernelIn("for: 0@0() +> 1@0(): load 0"))
	}
	if got := checkRun(t, many, [][]int{{impl.Prime - 3}}); !sameLists(got, [][]int{{impl.Prime - 1200}}) {
		t.Errorf("400 kernels give %v", got)
	}
}

// wantKernels says which kernels reckon node k, with what the nodes give.
func wantKernels(k int, n impl.Node, values []impl.Tensor) []impl.Kernel {
	dims, from, store := values[k].Dims, [][]int{}, impl.Access{Buffer: k, Steps: plainOf(values[k].Dims)}
	made, loads := impl.Kernel{Loops: slices.Clone(dims), Store: store, Code: codeIn("load 0")}, []impl.Access{}
	for _, arg := range n.Args {
		from = append(from, values[arg].Dims)
		loads = append(loads, impl.Access{Buffer: arg, Steps: plainOf(values[arg].Dims)})
	}
	made.Loads = loads
	axis := 0
	if len(n.Ints) > 0 {
		axis = n.Ints[0]
	}
	switch n.Op {
	case 3, 4, 5:
		made.Code = append(codeIn("load 0, load 1"), impl.Calc{Op: n.Op, A: 0, B: 1})
	case 6, 7, 8, 9:
		made.Code = append(codeIn("load 0"), impl.Calc{Op: n.Op})
	case 11:
		return []impl.Kernel{wantContracting(k, n, values)}
	case 12, 14, 18:
		made.Loads[0] = wantLooking(n, from[0], dims)
	case 13:
		made.Loops = ints(len(values[k].Data))
		made.Loads[0].Steps, made.Store.Steps = plainOf(made.Loops), plainOf(made.Loops)
	case 15:
		made.Loops, made.Store.Offset = slices.Clone(from[0]), n.Ints[1]*store.Steps[axis]
		made.Store.Steps[axis] *= n.Ints[3] + 1
	case 16, 17:
		return wantMoving(k, n, from[0], dims)
	case 19:
		made.Loops, made.Sum = slices.Clone(from[0]), true
		made.Store.Steps = append(made.Store.Steps, store.Steps[axis])
		made.Store.Steps[axis] *= n.Ints[1]
	}
	for at, length := range made.Loops {
		if length == 1 {
			made.Store.Steps[at] = 0
		}
	}
	return []impl.Kernel{made}
}

func wantContracting(k int, n impl.Node, values []impl.Tensor) impl.Kernel {
	groups, outcome, _ := wantParts(n.Form)
	letters := outcome
	for _, letter := range strings.Split(strings.Join(groups, ""), "") {
		if !strings.Contains(letters, letter) {
			letters += letter
		}
	}
	made := impl.Kernel{Sum: true, Loops: noughts(len(letters)), Store: impl.Access{Buffer: k, Steps: append(plainOf(values[k].Dims), noughts(len(letters)-len(outcome))...)}}
	for i, arg := range n.Args {
		dims, steps := values[arg].Dims, noughts(len(letters))
		for axis, length := range dims {
			at := strings.Index(letters, groups[i][axis:axis+1])
			made.Loops[at] = length
			steps[at] += plainOf(dims)[axis]
		}
		made.Loads = append(made.Loads, impl.Access{Buffer: arg, Steps: steps})
	}
	text := "load 0"
	for i := 1; i < len(groups); i++ {
		text += fmt.Sprintf(", load %d, mul %d %d", i, 2*i-2, 2*i-1)
	}
	made.Code = codeIn(text)
	return made
}

// wantLooking gives the Load of an OpSpread, OpSlice or OpWindow: the view of
// chapter 6.
func wantLooking(n impl.Node, from []int, dims []int) impl.Access {
	a := impl.Access{Buffer: n.Args[0], Steps: plainOf(from)}
	switch n.Op {
	case 12:
		a.Steps = append(noughts(len(dims)-len(from)), a.Steps...)
	case 14:
		axis := n.Ints[0]
		a.Offset = n.Ints[1] * a.Steps[axis]
		a.Steps[axis] *= n.Ints[3]
	default:
		axis := n.Ints[0]
		a.Steps = append(a.Steps, a.Steps[axis])
		a.Steps[axis] *= n.Ints[2]
	}
	for at, length := range dims {
		if length == 1 {
			a.Steps[at] = 0
		}
	}
	return a
}

func wantMoving(k int, n impl.Node, from []int, dims []int) []impl.Kernel {
	kernels, axis, index := []impl.Kernel{}, n.Ints[0], n.Ints[1:]
	if n.Op == 17 {
		index = n.Ints[2:]
	}
	for p, x := range index {
		out, in := p, x
		if n.Op == 17 {
			out, in = x, p
		}
		load, store := plainOf(from), plainOf(dims)
		made := impl.Kernel{Loops: replaced(from, axis, 1), Sum: n.Op == 17, Code: codeIn("load 0")}
		made.Loads = []impl.Access{{Buffer: n.Args[0], Offset: in * load[axis], Steps: replaced(load, axis, 0)}}
		made.Store = impl.Access{Buffer: k, Offset: out * store[axis], Steps: replaced(store, axis, 0)}
		kernels = append(kernels, made)
	}
	return kernels
}

// wantLower says what the document says of Lower.
func wantLower(g impl.Graph) (impl.Nest, bool) {
	values, ok := wantAll(g, nil)
	if !ok {
		return impl.Nest{}, false
	}
	used := wantUsed(g)
	l := impl.Nest{Sizes: noughts(len(g.Nodes)), Ins: wantInputs(g), Outs: slices.Clone(g.Outs)}
	for k, n := range g.Nodes {
		if n.Op == 1 {
			l.Sizes[k] = len(values[k].Data)
		}
		if n.Op == 1 || !slices.Contains(used, k) {
			continue
		}
		l.Sizes[k] = len(values[k].Data)
		switch n.Op {
		case 2:
			l.Fixed = append(l.Fixed, impl.Fix{Buffer: k, Data: slices.Clone(n.Data)})
		case 10:
			return impl.Nest{}, false
		default:
			l.Kernels = append(l.Kernels, wantKernels(k, n, values)...)
		}
	}
	if !wantNestOk(l) {
		return impl.Nest{}, false
	}
	return l, true
}

// dataOf are the numbers of tensors.
func dataOf(ts []impl.Tensor) [][]int {
	lists := [][]int{}
	for _, a := range ts {
		lists = append(lists, a.Data)
	}
	return lists
}

// checkLower holds Lower against the words, and P29: the nest, and what it is
// when it is fused, give what the graph gives.
func checkLower(t *testing.T, source *rand.Rand, g impl.Graph) (impl.Nest, bool) {
	t.Helper()
	got, ok := impl.Lower(g)
	want, there := wantLower(g)
	if ok != there || !sameNest(got, want) {
		t.Fatalf("Lower of\n%sis %v\n%snot %v\n%s", wantText(g), ok, nestText(got), there, nestText(want))
	}
	if !ok {
		return got, false
	}
	fused := impl.Fuse(got)
	if len(fused.Kernels) > len(got.Kernels) || !impl.NestOk(fused) {
		t.Fatalf("fused,\n%sis\n%s", nestText(got), nestText(fused))
	}
	for range 2 {
		inputs := inputsFor(source, g)
		outs := dataOf(impl.Eval(g, inputs))
		if numbers := impl.RunNest(got, dataOf(inputs)); !sameLists(numbers, outs) {
			t.Fatalf("lowered,\n%sgives %v, not %v", wantText(g), numbers, outs)
		}
		if numbers := impl.RunNest(fused, dataOf(inputs)); !sameLists(numbers, outs) {
			t.Fatalf("fused,\n%sgives %v, not %v:\n%s", wantText(g), numbers, outs, nestText(fused))
		}
	}
	return got, true
}

// allOut is the graph with all its nodes as Outs, as far as there is room.
func allOut(g impl.Graph) impl.Graph {
	g.Outs = firstNumbers(min(len(g.Nodes), 40))
	return g
}

// P29, at graphs of each Op, with nodes that are Used and ones that are not.
func TestLowerGivesWhatTheGraphGives(t *testing.T) {
	source := rand.New(rand.NewSource(156))
	graphs := slices.Concat(goodGraphs(), slopeGraphs(), someGraphs(250, 157), rewriteGraphs(100, 158))
	lowered, fused, not := 0, 0, 0
	for _, g := range graphs {
		l, ok := checkLower(t, source, g)
		if !ok {
			not++
			continue
		}
		lowered++
		if len(impl.Fuse(l).Kernels) < len(l.Kernels) {
			fused++
		}
		if len(g.Nodes) < 40 {
			checkLower(t, source, allOut(g))
		}
	}
	if lowered < 400 || fused < 100 || not < 25 {
		t.Errorf("%d are lowered, %d of them fused, %d not lowered", lowered, fused, not)
	}
}

// P29, with what the language makes, and the gradients of it.
func TestLowerOfModels(t *testing.T) {
	source := rand.New(rand.NewSource(159))
	rows := []struct {
		text    string
		kernels int
		fused   int
	}{
		{"in x [2]\nout relu(x * x + x)\n", 3, 1},
		{"in x [2,3]\nin w [3]\ndef square(a) = a * a\nlet y = contract(\"ij,j->i\", x, w) - 1\nout sum(square(relu(y)))\n", 6, 2},
		{"in x [3]\nout x\nout x + x\n", 1, 1},
		{"in x [2,2]\nout sum(x * x)\n", 2, 1},
	}
	for _, row := range rows {
		g, at := impl.Trace(row.text)
		if at >= 0 {
			t.Fatalf("%q is wrong at %d", row.text, at)
		}
		l, ok := checkLower(t, source, g)
		if !ok || len(l.Kernels) != row.kernels || len(impl.Fuse(l).Kernels) != row.fused {
			t.Errorf("%q: %d kernels, %d when fused", row.text, len(l.Kernels), len(impl.Fuse(l).Kernels))
		}
	}
	graphs := 0
	for _, g := range gradGraphs(60, 160) {
		values, ok := wantAll(g, nil)
		out := len(g.Nodes) - 1
		if !ok || len(values[out].Data) != 1 || len(g.Nodes) > 20 {
			continue
		}
		gradient, ok := impl.GradGraph(g, out, wantInputs(g))
		if !ok || len(gradient.Nodes) > 60 {
			continue
		}
		if _, ok := checkLower(t, source, impl.Simplify(gradient)); ok {
			graphs++
		}
	}
	if graphs < 100 {
		t.Errorf("%d gradients are lowered", graphs)
	}
}

// lowerRow has the text of a graph, and what the nest is; an empty one when
// there is none.
type lowerRow struct{ graph, nest string }

func checkLowerRows(t *testing.T, rows []lowerRow) {
	t.Helper()
	source := rand.New(rand.NewSource(161))
	for _, row := range rows {
		g, ok := impl.ReadGraph(row.graph)
		if !ok {
			t.Fatalf("%q is no graph", row.graph)
		}
		l, ok := checkLower(t, source, g)
		if ok != (row.nest != "") || ok && nestText(l) != row.nest {
			t.Errorf("Lower of\n%sis %v\n%snot\n%s", row.graph, ok, nestText(l), row.nest)
		}
	}
}

func TestLowerOfNumbers(t *testing.T) {
	rows := []lowerRow{
		{"out\n", "sizes\nin\nout\n"}, {"0 input [2 3]\nout\n", "sizes 6\nin 0\nout\n"}, {"0 input []\nout 0 0\n", "sizes 1\nin 0\nout 0 0\n"},
		{"0 const [2] 7 8\nout 0\n", "sizes 2\nin\nfix 0 7 8\nout 0\n"}, {"0 const [2] 7 8\nout\n", "sizes 0\nin\nout\n"},
		{"0 input [2]\n1 const [] 4\n2 const [2] 7 8\n3 neg 0\n4 const [1] 5\n5 add 2 2\n6 input [3]\nout 4 2\n", "sizes 2 0 2 0 1 0 3\nin 0 6\nfix 2 7 8\nfix 4 5\nout 4 2\n"},
		{"0 input [2 3]\n1 input [2 3]\n2 add 0 1\nout 2\n", "sizes 6 6 6\nin 0 1\nfor 2 3: 0@0(3 1) 1@0(3 1) -> 2@0(3 1): load 0, load 1, add 0 1\nout 2\n"},
		{"0 input [2 3]\n1 input [2 3]\n2 sub 1 0\nout 2\n", "sizes 6 6 6\nin 0 1\nfor 2 3: 1@0(3 1) 0@0(3 1) -> 2@0(3 1): load 0, load 1, sub 0 1\nout 2\n"},
		{"0 input [2]\n1 mul 0 0\nout 1\n", "sizes 2 2\nin 0\nfor 2: 0@0(1) 0@0(1) -> 1@0(1): load 0, load 1, mul 0 1\nout 1\n"},
		{"0 input []\n1 sub 0 0\nout 1\n", "sizes 1 1\nin 0\nfor: 0@0() 0@0() -> 1@0(): load 0, load 1, sub 0 1\nout 1\n"},
		{"0 input [2]\n1 neg 0\n2 inv 1\n3 step 2\n4 relu 3\nout 4\n", "sizes 2 2 2 2 2\nin 0\nfor 2: 0@0(1) -> 1@0(1): load 0, neg 0\nfor 2: 1@0(1) -> 2@0(1): load 0, inv 0\nfor 2: 2@0(1) -> 3@0(1): load 0, step 0\nfor 2: 3@0(1) -> 4@0(1): load 0, relu 0\nout 4\n"},
		{"0 input [1 2 1 3 1]\n1 neg 0\nout 1\n", "sizes 6 6\nin 0\nfor 1 2 1 3 1: 0@0(0 3 0 1 0) -> 1@0(0 3 0 1 0): load 0, neg 0\nout 1\n"},
		{"0 input [1 1 1 1 1 1]\n1 relu 0\nout 1\n", "sizes 1 1\nin 0\nfor 1 1 1 1 1 1: 0@0(0 0 0 0 0 0) -> 1@0(0 0 0 0 0 0): load 0, relu 0\nout 1\n"},
		// Nodes that are not Used have no kernel; inputs have their buffers.
		{"0 input [2]\n1 neg 0\n2 input [3]\n3 relu 0\n4 neg 1\nout 3\n", "sizes 2 0 3 2 0\nin 0 2\nfor 2: 0@0(1) -> 3@0(1): load 0, relu 0\nout 3\n"},
		{"0 input [2]\n1 neg 0\n2 relu 0\nout 1 0 1\n", "sizes 2 2 0\nin 0\nfor 2: 0@0(1) -> 1@0(1): load 0, neg 0\nout 1 0 1\n"},
		// OpTop, Used and not.
		{"0 input [2]\n1 top 0 (0)\nout 1\n", ""}, {"0 input [2]\n1 top 0 (0)\n2 neg 1\nout 0 2\n", ""}, {"0 input [2]\n1 top 0 (0)\n2 neg 1\n3 neg 0\nout 3\n", "sizes 2 0 0 2\nin 0\nfor 2: 0@0(1) -> 3@0(1): load 0, neg 0\nout 3\n"}, {"0 input [2]\n1 top 0 (0)\nout\n", "sizes 2 0\nin 0\nout\n"},
		{"0 const [2] 3 4\n1 top 0 (0)\nout 1\n", ""},
	}
	checkLowerRows(t, rows)
}

func TestLowerOfContracts(t *testing.T) {
	checkLowerRows(t, []lowerRow{
		{"0 input [2 3]\n1 contract 0 ab->ba\nout 1\n", "sizes 6 6\nin 0\nfor 3 2: 0@0(1 3) +> 1@0(2 1): load 0\nout 1\n"},
		{"0 input [2 3]\n1 contract 0 zb->\nout 1\n", "sizes 6 1\nin 0\nfor 2 3: 0@0(3 1) +> 1@0(0 0): load 0\nout 1\n"},
		{"0 input [2 3]\n1 contract 0 ba->a\nout 1\n", "sizes 6 3\nin 0\nfor 3 2: 0@0(1 3) +> 1@0(1 0): load 0\nout 1\n"},
		{"0 input [2 3]\n1 input [3 4]\n2 contract 0 1 ij,jk->ik\nout 2\n", "sizes 6 12 8\nin 0 1\nfor 2 4 3: 0@0(3 0 1) 1@0(0 1 4) +> 2@0(4 1 0): load 0, load 1, mul 0 1\nout 2\n"},
		// The others stand as they first stand in the Form, not by the alphabet.
		{"0 input [2 3]\n1 input [3 4]\n2 contract 0 1 zy,yx->\nout 2\n", "sizes 6 12 1\nin 0 1\nfor 2 3 4: 0@0(3 1 0) 1@0(0 4 1) +> 2@0(0 0 0): load 0, load 1, mul 0 1\nout 2\n"},
		{"0 input [3]\n1 input [2]\n2 contract 0 1 0 c,b,a->ab\nout 2\n", "sizes 3 2 6\nin 0 1\nfor 3 2 3: 0@0(0 0 1) 1@0(0 1 0) 0@0(1 0 0) +> 2@0(2 1 0): load 0, load 1, mul 0 1, load 2, mul 2 3\nout 2\n"},
		// A letter that stands twice in a group.
		{"0 input [3 3]\n1 contract 0 aa->a\nout 1\n", "sizes 9 3\nin 0\nfor 3: 0@0(4) +> 1@0(1): load 0\nout 1\n"}, {"0 input [3 3]\n1 contract 0 aa->\nout 1\n", "sizes 9 1\nin 0\nfor 3: 0@0(4) +> 1@0(0): load 0\nout 1\n"},
		{"0 input [2 3 2 2]\n1 input [2 2]\n2 contract 0 1 abaa,ca->bc\nout 2\n", "sizes 24 4 6\nin 0 1\nfor 3 2 2: 0@0(4 0 15) 1@0(0 2 1) +> 2@0(2 1 0): load 0, load 1, mul 0 1\nout 2\n"},
		// Lengths of 1, in the outcome and not; no letters at all.
		{"0 input [1 3]\n1 contract 0 ab->ab\nout 1\n", "sizes 3 3\nin 0\nfor 1 3: 0@0(0 1) +> 1@0(0 1): load 0\nout 1\n"}, {"0 input [1 3]\n1 contract 0 ab->b\nout 1\n", "sizes 3 3\nin 0\nfor 3 1: 0@0(1 0) +> 1@0(1 0): load 0\nout 1\n"}, {"0 input [3 1]\n1 contract 0 ab->ba\nout 1\n", "sizes 3 3\nin 0\nfor 1 3: 0@0(0 1) +> 1@0(0 1): load 0\nout 1\n"},
		{"0 input []\n1 contract 0 ->\nout 1\n", "sizes 1 1\nin 0\nfor: 0@0() +> 1@0(): load 0\nout 1\n"}, {"0 input []\n1 contract 0 0 0 ,,->\nout 1\n", "sizes 1 1\nin 0\nfor: 0@0() 0@0() 0@0() +> 1@0(): load 0, load 1, mul 0 1, load 2, mul 2 3\nout 1\n"},
		{"0 input []\n1 input [2]\n2 contract 0 1 ,a->a\nout 2\n", "sizes 1 2 2\nin 0 1\nfor 2: 0@0(0) 1@0(1) +> 2@0(1): load 0, load 1, mul 0 1\nout 2\n"},
		{"0 input [2]\n1 contract 0 0 0 0 0 0 a,b,c,d,e,f->fd\nout 1\n", "sizes 2 4\nin 0\nfor 2 2 2 2 2 2: 0@0(0 0 1 0 0 0) 0@0(0 0 0 1 0 0) 0@0(0 0 0 0 1 0) 0@0(0 1 0 0 0 0) 0@0(0 0 0 0 0 1) 0@0(1 0 0 0 0 0) +> 1@0(2 1 0 0 0 0): load 0, load 1, mul 0 1, load 2, mul 2 3, load 3, mul 4 5, load 4, mul 6 7, load 5, mul 8 9\nout 1\n"},
		// Twelve letters, and one more.
		{"0 input [1 1 1 1 1 1]\n1 contract 0 0 abcdef,ghijkl->la\nout 1\n", "sizes 1 1\nin 0\nfor 1 1 1 1 1 1 1 1 1 1 1 1: 0@0(0 0 0 0 0 0 0 0 0 0 0 0) 0@0(0 0 0 0 0 0 0 0 0 0 0 0) +> 1@0(0 0 0 0 0 0 0 0 0 0 0 0): load 0, load 1, mul 0 1\nout 1\n"},
		{"0 input [1 1 1 1 1 1]\n1 input [1]\n2 contract 0 0 1 abcdef,ghijkl,m->\nout 2\n", ""}, {"0 input [1 1 1 1 1 1]\n1 input [1]\n2 contract 0 0 1 abcdef,ghijkl,m->\nout\n", "sizes 1 1 0\nin 0 1\nout\n"}, {"0 input [1 1 1 1 1 1]\n1 input [1]\n2 contract 0 0 1 abcdef,ghijkl,l->\nout 2\n", "sizes 1 1 1\nin 0 1\nfor 1 1 1 1 1 1 1 1 1 1 1 1: 0@0(0 0 0 0 0 0 0 0 0 0 0 0) 0@0(0 0 0 0 0 0 0 0 0 0 0 0) 1@0(0 0 0 0 0 0 0 0 0 0 0 0) +> 2@0(0 0 0 0 0 0 0 0 0 0 0 0): load 0, load 1, mul 0 1, load 2, mul 2 3\nout 2\n"},
	})
}

func TestLowerOfTurns(t *testing.T) {
	checkLowerRows(t, []lowerRow{
		{"0 input [2 3]\n1 reshape 0 [3 2]\nout 1\n", "sizes 6 6\nin 0\nfor 6: 0@0(1) -> 1@0(1): load 0\nout 1\n"}, {"0 input []\n1 reshape 0 [1 1]\nout 1\n", "sizes 1 1\nin 0\nfor 1: 0@0(0) -> 1@0(0): load 0\nout 1\n"}, {"0 input [1]\n1 reshape 0 []\nout 1\n", "sizes 1 1\nin 0\nfor 1: 0@0(0) -> 1@0(0): load 0\nout 1\n"},
		{"0 input [4 4 4 4 4 4]\n1 reshape 0 [4096]\nout 1\n", "sizes 4096 4096\nin 0\nfor 4096: 0@0(1) -> 1@0(1): load 0\nout 1\n"},
		{"0 input [3]\n1 spread 0 [2 3]\nout 1\n", "sizes 3 6\nin 0\nfor 2 3: 0@0(0 1) -> 1@0(3 1): load 0\nout 1\n"}, {"0 input [2 1]\n1 spread 0 [2 3]\nout 1\n", "sizes 2 6\nin 0\nfor 2 3: 0@0(1 0) -> 1@0(3 1): load 0\nout 1\n"}, {"0 input []\n1 spread 0 [2]\nout 1\n", "sizes 1 2\nin 0\nfor 2: 0@0(0) -> 1@0(1): load 0\nout 1\n"},
		{"0 input []\n1 spread 0 []\nout 1\n", "sizes 1 1\nin 0\nfor: 0@0() -> 1@0(): load 0\nout 1\n"}, {"0 input [1]\n1 spread 0 [1 1]\nout 1\n", "sizes 1 1\nin 0\nfor 1 1: 0@0(0 0) -> 1@0(0 0): load 0\nout 1\n"}, {"0 input [1 3]\n1 spread 0 [2 1 3]\nout 1\n", "sizes 3 6\nin 0\nfor 2 1 3: 0@0(0 0 1) -> 1@0(3 0 1): load 0\nout 1\n"},
		{"0 input [2 3]\n1 spread 0 [2 3]\nout 1\n", "sizes 6 6\nin 0\nfor 2 3: 0@0(3 1) -> 1@0(3 1): load 0\nout 1\n"},
		{"0 input [7]\n1 slice 0 (0 1 3 2)\nout 1\n", "sizes 7 3\nin 0\nfor 3: 0@1(2) -> 1@0(1): load 0\nout 1\n"}, {"0 input [3 4]\n1 slice 0 (0 1 2 1)\nout 1\n", "sizes 12 8\nin 0\nfor 2 4: 0@4(4 1) -> 1@0(4 1): load 0\nout 1\n"}, {"0 input [3 4]\n1 slice 0 (1 1 2 2)\nout 1\n", "sizes 12 6\nin 0\nfor 3 2: 0@1(4 2) -> 1@0(2 1): load 0\nout 1\n"},
		{"0 input [3 4]\n1 slice 0 (1 3 1 4096)\nout 1\n", "sizes 12 3\nin 0\nfor 3 1: 0@3(4 0) -> 1@0(1 0): load 0\nout 1\n"}, {"0 input [3 4]\n1 slice 0 (0 2 1 1)\nout 1\n", "sizes 12 4\nin 0\nfor 1 4: 0@8(0 1) -> 1@0(0 1): load 0\nout 1\n"}, {"0 input [1 4]\n1 slice 0 (0 0 1 5)\nout 1\n", "sizes 4 4\nin 0\nfor 1 4: 0@0(0 1) -> 1@0(0 1): load 0\nout 1\n"},
		{"0 input [7]\n1 window 0 (0 3 2)\nout 1\n", "sizes 7 9\nin 0\nfor 3 3: 0@0(2 1) -> 1@0(3 1): load 0\nout 1\n"}, {"0 input [4 2]\n1 window 0 (0 2 1)\nout 1\n", "sizes 8 12\nin 0\nfor 3 2 2: 0@0(2 1 2) -> 1@0(4 2 1): load 0\nout 1\n"}, {"0 input [4]\n1 window 0 (0 4 9223372036854775807)\nout 1\n", "sizes 4 4\nin 0\nfor 1 4: 0@0(0 1) -> 1@0(0 1): load 0\nout 1\n"},
		{"0 input [4]\n1 window 0 (0 1 3)\nout 1\n", "sizes 4 2\nin 0\nfor 2 1: 0@0(3 0) -> 1@0(1 0): load 0\nout 1\n"}, {"0 input [1]\n1 window 0 (0 1 1)\nout 1\n", "sizes 1 1\nin 0\nfor 1 1: 0@0(0 0) -> 1@0(0 0): load 0\nout 1\n"},
	})
}

func TestLowerOfPadsAndFolds(t *testing.T) {
	checkLowerRows(t, []lowerRow{
		{"0 input [2]\n1 pad 0 (0 1 2 0)\nout 1\n", "sizes 2 5\nin 0\nfor 2: 0@0(1) -> 1@1(1): load 0\nout 1\n"}, {"0 input [2]\n1 pad 0 (0 0 0 2)\nout 1\n", "sizes 2 4\nin 0\nfor 2: 0@0(1) -> 1@0(3): load 0\nout 1\n"}, {"0 input [2 3]\n1 pad 0 (0 1 1 1)\nout 1\n", "sizes 6 15\nin 0\nfor 2 3: 0@0(3 1) -> 1@3(6 1): load 0\nout 1\n"},
		{"0 input [2 3]\n1 pad 0 (1 2 0 1)\nout 1\n", "sizes 6 14\nin 0\nfor 2 3: 0@0(3 1) -> 1@2(7 2): load 0\nout 1\n"}, {"0 input [2 3]\n1 pad 0 (1 0 0 0)\nout 1\n", "sizes 6 6\nin 0\nfor 2 3: 0@0(3 1) -> 1@0(3 1): load 0\nout 1\n"},
		// A loop of length 1, though the outcome has more there.
		{"0 input [1 3]\n1 pad 0 (0 2 1 5)\nout 1\n", "sizes 3 12\nin 0\nfor 1 3: 0@0(0 1) -> 1@6(0 1): load 0\nout 1\n"}, {"0 input [3 1]\n1 pad 0 (1 2 1 4096)\nout 1\n", "sizes 3 12\nin 0\nfor 3 1: 0@0(1 0) -> 1@2(4 0): load 0\nout 1\n"}, {"0 input [1 3]\n1 pad 0 (0 0 0 4096)\nout 1\n", "sizes 3 3\nin 0\nfor 1 3: 0@0(0 1) -> 1@0(0 1): load 0\nout 1\n"},
		{"0 input [1 3]\n1 pad 0 (1 1 0 0)\nout 1\n", "sizes 3 4\nin 0\nfor 1 3: 0@0(0 1) -> 1@1(0 1): load 0\nout 1\n"},
		// Windows that overlap, that just meet, and that have gaps between them.
		{"0 input [3 2]\n1 fold 0 (0 1 4)\nout 1\n", "sizes 6 4\nin 0\nfor 3 2: 0@0(2 1) +> 1@0(1 1): load 0\nout 1\n"}, {"0 input [3 2]\n1 fold 0 (0 2 6)\nout 1\n", "sizes 6 6\nin 0\nfor 3 2: 0@0(2 1) +> 1@0(2 1): load 0\nout 1\n"}, {"0 input [3 2]\n1 fold 0 (0 4 11)\nout 1\n", "sizes 6 11\nin 0\nfor 3 2: 0@0(2 1) +> 1@0(4 1): load 0\nout 1\n"},
		{"0 input [2 5 3]\n1 fold 0 (0 2 5)\nout 1\n", "sizes 30 25\nin 0\nfor 2 5 3: 0@0(15 3 1) +> 1@0(10 1 5): load 0\nout 1\n"}, {"0 input [5 2 3]\n1 fold 0 (1 1 4)\nout 1\n", "sizes 30 20\nin 0\nfor 5 2 3: 0@0(6 3 1) +> 1@0(4 1 1): load 0\nout 1\n"},
		{"0 input [1 3]\n1 fold 0 (0 9223372036854775807 3)\nout 1\n", "sizes 3 3\nin 0\nfor 1 3: 0@0(0 1) +> 1@0(0 1): load 0\nout 1\n"}, {"0 input [3 1]\n1 fold 0 (0 2 5)\nout 1\n", "sizes 3 5\nin 0\nfor 3 1: 0@0(1 0) +> 1@0(2 0): load 0\nout 1\n"}, {"0 input [1 1]\n1 fold 0 (0 1 1)\nout 1\n", "sizes 1 1\nin 0\nfor 1 1: 0@0(0 0) +> 1@0(0 0): load 0\nout 1\n"},
		{"0 input [1 3]\n1 fold 0 (0 2 4)\nout 1\n", "sizes 3 4\nin 0\nfor 1 3: 0@0(0 1) +> 1@0(0 1): load 0\nout 1\n"},
	})
}

func TestLowerOfGathersAndScatters(t *testing.T) {
	checkLowerRows(t, []lowerRow{
		{"0 input [3]\n1 gather 0 (0 2 0 2)\nout 1\n", "sizes 3 3\nin 0\nfor 1: 0@2(0) -> 1@0(0): load 0\nfor 1: 0@0(0) -> 1@1(0): load 0\nfor 1: 0@2(0) -> 1@2(0): load 0\nout 1\n"},
		{"0 input [3 2]\n1 gather 0 (0 2 2)\nout 1\n", "sizes 6 4\nin 0\nfor 1 2: 0@4(0 1) -> 1@0(0 1): load 0\nfor 1 2: 0@4(0 1) -> 1@2(0 1): load 0\nout 1\n"},
		{"0 input [3 2]\n1 gather 0 (1 1)\nout 1\n", "sizes 6 3\nin 0\nfor 3 1: 0@1(2 0) -> 1@0(1 0): load 0\nout 1\n"}, {"0 input [3 2]\n1 gather 0 (1 1 0 1)\nout 1\n", "sizes 6 9\nin 0\nfor 3 1: 0@1(2 0) -> 1@0(3 0): load 0\nfor 3 1: 0@0(2 0) -> 1@1(3 0): load 0\nfor 3 1: 0@1(2 0) -> 1@2(3 0): load 0\nout 1\n"},
		{"0 input [1 2]\n1 gather 0 (0 0 0)\nout 1\n", "sizes 2 4\nin 0\nfor 1 2: 0@0(0 1) -> 1@0(0 1): load 0\nfor 1 2: 0@0(0 1) -> 1@2(0 1): load 0\nout 1\n"},
		{"0 input [3]\n1 scatter 0 (0 4 3 1 3)\nout 1\n", "sizes 3 4\nin 0\nfor 1: 0@0(0) +> 1@3(0): load 0\nfor 1: 0@1(0) +> 1@1(0): load 0\nfor 1: 0@2(0) +> 1@3(0): load 0\nout 1\n"},
		{"0 input [2 3]\n1 scatter 0 (0 3 2 0)\nout 1\n", "sizes 6 9\nin 0\nfor 1 3: 0@0(0 1) +> 1@6(0 1): load 0\nfor 1 3: 0@3(0 1) +> 1@0(0 1): load 0\nout 1\n"}, {"0 input [3 2]\n1 scatter 0 (1 1 0 0)\nout 1\n", "sizes 6 3\nin 0\nfor 3 1: 0@0(2 0) +> 1@0(1 0): load 0\nfor 3 1: 0@1(2 0) +> 1@0(1 0): load 0\nout 1\n"},
		{"0 input [1 2]\n1 scatter 0 (0 3 1)\nout 1\n", "sizes 2 6\nin 0\nfor 1 2: 0@0(0 1) +> 1@2(0 1): load 0\nout 1\n"},
		// Kernels of several nodes stand in the order of the nodes.
		{"0 input [2]\n1 neg 0\n2 gather 1 (0 1 0)\n3 scatter 2 (0 1 0 0)\n4 mul 1 2\nout 4 3\n", "sizes 2 2 2 1 2\nin 0\nfor 2: 0@0(1) -> 1@0(1): load 0, neg 0\nfor 1: 1@1(0) -> 2@0(0): load 0\nfor 1: 1@0(0) -> 2@1(0): load 0\nfor 1: 2@0(0) +> 3@0(0): load 0\nfor 1: 2@1(0) +> 3@0(0): load 0\nfor 2: 1@0(1) 2@0(1) -> 4@0(1): load 0, load 1, mul 0 1\nout 4 3\n"},
	})
}

func TestLowerOfWrongGraphs(t *testing.T) {
	source := rand.New(rand.NewSource(162))
	for _, g := range wrongGraphs() {
		if l, ok := impl.Lower(g); ok || !isNoNest(l) {
			t.Errorf("Lower(%+v) is %v", g, l)
		}
	}
	good, wrong := 0, 0
	for _, g := range someGraphs(150, 163) {
		for range 6 {
			if len(g.Nodes) == 0 {
				continue
			}
			if _, ok := checkLower(t, source, spoiltGraph(source, g)); ok {
				good++
			} else {
				wrong++
			}
		}
	}
	if good < 50 || wrong < 300 {
		t.Errorf("%d are lowered, %d not", good, wrong)
	}
}

// gathering has one input of this length, and nodes that gather so many of it.
func gathering(length int, counts ...int) impl.Graph {
	g := graphOf(nil, inputNode(length))
	for _, count := range counts {
		g.Nodes = append(g.Nodes, intsNode(impl.OpGather, 0, noughts(count+1)...))
		g.Outs = append(g.Outs, len(g.Nodes)-1)
	}
	return g
}

func TestLowerAtLimits(t *testing.T) {
	source := rand.New(rand.NewSource(164))
	inputs := func(count int) impl.Graph {
		g := graphOf(ints(count), slices.Repeat([]impl.Node{inputNode(2)}, count)...)
		g.Nodes = append(g.Nodes, argsNode(impl.OpAdd, 0, count-1))
		return g
	}
	works := func(count int, rest int) impl.Graph {
		g := graphOf(nil, inputNode(256), inputNode(rest))
		for range count {
			g.Nodes = append(g.Nodes, formNode("a,b->", 0, 0))
			g.Outs = append(g.Outs, len(g.Nodes)-1)
		}
		g.Nodes = append(g.Nodes, formNode("a,b->", 1, 1))
		g.Outs = append(g.Outs, len(g.Nodes)-1)
		return g
	}
	unused := gathering(2, 399, 2, 1)
	unused.Outs = ints(1, 3)
	scatters := graphOf(ints(1), inputNode(400), intsNode(impl.OpScatter, 0, append(ints(0, 1), noughts(400)...)...))
	ends := gathering(2, 400)
	ends.Nodes = append(ends.Nodes, constNode(ints(2), 3, 4), inputNode(3))
	ends.Outs = append(ends.Outs, 2, 3)
	rows := []struct {
		name string
		g    impl.Graph
		ok   bool
	}{
		{"400 kernels, and then no more", ends, true},
		{"400 kernels", gathering(2, 400), true}, {"401 kernels", gathering(2, 401), false}, {"400 by two nodes", gathering(2, 150, 250), true}, {"401 by two nodes", gathering(2, 150, 251), false}, {"401, the last by one", gathering(2, 400, 1), false},
		{"4096 kernels", gathering(2, 4096), false}, {"much more", gathering(1, slices.Repeat(ints(4096), 39)...), false}, {"400 of which are Used", unused, true}, {"400 by a scatter", scatters, true}, {"401 with what is behind", graphOf(ints(2), append(slices.Clone(scatters.Nodes), argsNode(impl.OpNeg, 1))...), false},
		{"40 inputs", inputs(40), true}, {"41 inputs", inputs(41), false}, {"15 of MaxWork", works(15, 130), true}, {"15 of MaxWork and more", works(15, 131), false}, {"16 of MaxWork", works(16, 1), false},
		{"200 nodes", graphOf(ints(199), manyNodes(200)...), true}, {"40 Outs", graphOf(noughts(40), inputNode(2)), true},
	}
	for _, row := range rows {
		if _, ok := checkLower(t, source, row.g); ok != row.ok {
			t.Errorf("%s: %v", row.name, ok)
		}
	}
	exact := graphOf(nil, inputNode(256), inputNode(4096), inputNode(576))
	for range 15 {
		exact.Nodes = append(exact.Nodes, formNode("a,b->", 0, 0))
	}
	for range 4 {
		exact.Nodes = append(exact.Nodes, argsNode(impl.OpNeg, 1))
	}
	exact.Nodes = append(exact.Nodes, argsNode(impl.OpNeg, 2))
	exact.Outs = firstNumbers(len(exact.Nodes))
	if _, ok := checkLower(t, source, exact); !ok {
		t.Error("just MaxAll is refused")
	}
	exact.Nodes = append(exact.Nodes, intsNode(impl.OpSlice, 1, 0, 0, 1, 1))
	if _, ok := checkLower(t, source, exact); !ok {
		t.Error("just MaxAll is refused, with a node that is not Used")
	}
	exact.Outs = append(exact.Outs, len(exact.Nodes)-1)
	if _, ok := checkLower(t, source, exact); ok {
		t.Error("one more than MaxAll is taken")
	}
}

// fuseReasons are what alone may keep a kernel from leaving, but for limits. (An
// Offset never stands alone, nor does a step of a loop that is no partner: what
// goes through the whole buffer plainly leaves no room for them.)
func fuseReasons() []string {
	return []string{"sum", "plain", "size", "out", "stored", "loaders", "ahead", "changed", "partner", "differ"}
}

// wantPartners tells which of c's loops go with p's in the Load; a reason when
// it is not so.
func wantPartners(p impl.Kernel, c impl.Kernel, load impl.Access) ([]int, string) {
	taken, partners := map[int]bool{}, []int{}
	for i, length := range p.Loops {
		for j := range c.Loops {
			if !taken[j] && c.Loops[j] == length && load.Steps[j] == p.Store.Steps[i] {
				taken[j] = true
				partners = append(partners, j)
				break
			}
		}
		if len(partners) <= i {
			return nil, "partner"
		}
	}
	for j, step := range load.Steps {
		if !taken[j] && step != 0 {
			return nil, "moves"
		}
	}
	return partners, ""
}

// whyNot gives all that keeps kernel number from leaving, and the kernel that
// it goes into and that one's number.
func whyNot(l impl.Nest, number int) ([]string, impl.Kernel, int) {
	p, reasons := l.Kernels[number], []string{}
	when := func(holds bool, reason string) {
		if holds && !slices.Contains(reasons, reason) {
			reasons = append(reasons, reason)
		}
	}
	b, size := p.Store.Buffer, 1
	for _, length := range p.Loops {
		size *= length
	}
	when(p.Sum, "sum")
	when(!slices.Equal(p.Store.Steps, plainOf(p.Loops)), "plain")
	when(p.Store.Offset != 0, "offset")
	when(size != l.Sizes[b], "size")
	when(slices.Contains(l.Outs, b), "out")
	loaders := []int{}
	for other, k := range l.Kernels {
		when(other != number && k.Store.Buffer == b, "stored")
		for _, load := range k.Loads {
			if load.Buffer == b && !slices.Contains(loaders, other) {
				loaders = append(loaders, other)
			}
		}
		for _, load := range p.Loads {
			when(other >= number && k.Store.Buffer == load.Buffer, "changed")
		}
	}
	when(len(loaders) != 1, "loaders")
	if len(loaders) != 1 {
		return reasons, impl.Kernel{}, 0
	}
	c := l.Kernels[loaders[0]]
	when(loaders[0] < number, "ahead")
	var partners []int
	for _, load := range c.Loads {
		if load.Buffer != b {
			continue
		}
		when(load.Offset != 0, "load offset")
		found, reason := wantPartners(p, c, load)
		when(reason != "", reason)
		when(reason == "" && partners != nil && !slices.Equal(partners, found), "differ")
		if reason == "" {
			partners = found
		}
	}
	if slices.Contains(reasons, "partner") || slices.Contains(reasons, "moves") {
		return reasons, impl.Kernel{}, 0
	}
	made := wantTaken(p, c, partners)
	when(len(made.Loads) > 30, "loads")
	when(len(made.Code) > 60, "code")
	return reasons, made, loaders[0]
}

// wantTaken is c with p in it.
func wantTaken(p impl.Kernel, c impl.Kernel, partners []int) impl.Kernel {
	b, made := p.Store.Buffer, impl.Kernel{Loops: slices.Clone(c.Loops), Store: copiedAccess(c.Store), Sum: c.Sum}
	kept := map[int]int{}
	for at, load := range c.Loads {
		if load.Buffer != b {
			kept[at] = len(made.Loads)
			made.Loads = append(made.Loads, copiedAccess(load))
		}
	}
	ahead := len(made.Loads)
	for _, load := range p.Loads {
		steps := noughts(len(c.Loops))
		for i, j := range partners {
			steps[j] = load.Steps[i]
		}
		made.Loads = append(made.Loads, impl.Access{Buffer: load.Buffer, Offset: load.Offset, Steps: steps})
	}
	for _, step := range p.Code {
		if step.Op == 1 {
			step.A += ahead
		}
		made.Code = append(made.Code, step)
	}
	stands := map[int]int{}
	for at, step := range c.Code {
		if step.Op == 1 && c.Loads[step.A].Buffer == b {
			stands[at] = len(p.Code) - 1
			continue
		}
		stands[at] = len(made.Code)
		switch {
		case step.Op == 1:
			step.A = kept[step.A]
		case step.Op >= 3 && step.Op <= 5:
			step.A, step.B = stands[step.A], stands[step.B]
		case step.Op >= 6:
			step.A = stands[step.A]
		}
		made.Code = append(made.Code, step)
	}
	return made
}

// wantFuse says what the document says of Fuse; alone counts, by reason, the
// kernels that nothing else keeps from leaving.
func wantFuse(l impl.Nest, alone map[string]int) impl.Nest {
	if !wantNestOk(l) {
		return impl.Nest{}
	}
	l = copiedNest(l)
again:
	for number := range l.Kernels {
		reasons, made, c := whyNot(l, number)
		if len(reasons) == 1 {
			alone[reasons[0]]++
		}
		if len(reasons) == 0 {
			alone["fused"]++
			l.Kernels[c] = made
			l.Kernels = append(l.Kernels[:number], l.Kernels[number+1:]...)
			goto again
		}
	}
	return l
}

func checkFuse(t *testing.T, l impl.Nest, alone map[string]int) impl.Nest {
	t.Helper()
	got, want := impl.Fuse(l), wantFuse(l, alone)
	if !sameNest(got, want) {
		t.Fatalf("Fuse of\n%sis\n%snot\n%s", nestText(l), nestText(got), nestText(want))
	}
	if impl.NestOk(got) != wantNestOk(got) || impl.NestOk(l) && (!impl.NestOk(got) || len(got.Kernels) > len(l.Kernels)) {
		t.Fatalf("fused,\n%sis\n%s", nestText(l), nestText(got))
	}
	if again := impl.Fuse(got); !sameNest(again, got) {
		t.Fatalf("fused again,\n%sis\n%s", nestText(got), nestText(again))
	}
	return got
}

// endsInLoad asks whether a kernel puts down what a KLoad has, though it has
// reckoned something; such a one Lower never makes, and what it puts down may
// be something else when it is fused.
func endsInLoad(k impl.Kernel) bool {
	return len(k.Code) > 1 && k.Code[len(k.Code)-1].Op == impl.KLoad
}

func TestFuseOfRandomNests(t *testing.T) {
	source := rand.New(rand.NewSource(165))
	alone := map[string]int{}
	for _, l := range someNests(6000, 166) {
		fused := checkFuse(t, l, alone)
		if slices.ContainsFunc(l.Kernels, endsInLoad) {
			continue
		}
		ins := insFor(source, l)
		if got, want := impl.RunNest(fused, ins), impl.RunNest(l, ins); !sameLists(got, want) {
			t.Fatalf("fused,\n%sgives %v, not %v:\n%s", nestText(l), got, want, nestText(fused))
		}
	}
	for _, reason := range append(fuseReasons(), "fused") {
		if alone[reason] < 10 {
			t.Errorf("%q alone comes %d times", reason, alone[reason])
		}
	}
}

func TestFuseOfLoweredGraphs(t *testing.T) {
	alone, count := map[string]int{}, 0
	for _, g := range slices.Concat(goodGraphs(), slopeGraphs(), someGraphs(200, 167), gradGraphs(40, 168)) {
		if len(g.Nodes) > 60 {
			continue
		}
		if l, ok := impl.Lower(g); ok {
			count++
			checkFuse(t, l, alone)
		}
	}
	if count < 400 || alone["fused"] < 100 {
		t.Errorf("%d nests, %d kernels left", count, alone["fused"])
	}
}

// A fuseRow has a nest, and what it is when it is fused; empty when it stays as
// it is. why is what alone keeps a kernel from leaving.
type fuseRow struct{ why, nest, want string }

func checkFuseRows(t *testing.T, rows []fuseRow) {
	t.Helper()
	for _, row := range rows {
		l, alone := nestIn(row.nest), map[string]int{}
		if !checkNestOk(t, l) {
			t.Fatalf("refused:\n%s", row.nest)
		}
		got, want := checkFuse(t, l, alone), l
		if row.want != "" {
			want = nestIn(row.want)
		}
		if !sameNest(got, want) {
			t.Errorf("Fuse of\n%sis\n%snot\n%s", nestText(l), nestText(got), nestText(want))
		}
		if row.why != "" && alone[row.why] == 0 {
			t.Errorf("not %q alone keeps it: %v\n%s", row.why, alone, row.nest)
		}
	}
}

func TestFuseRows(t *testing.T) {
	checkFuseRows(t, []fuseRow{
		{"fused", "sizes 2 2 2\nin 0\nfor 2: 0@0(1) -> 1@0(1): load 0, neg 0\nfor 2: 1@0(1) -> 2@0(1): load 0, inv 0\nout 2", "sizes 2 2 2\nin 0\nfor 2: 0@0(1) -> 2@0(1): load 0, neg 0, inv 1\nout 2"},
		// A chain.
		{"fused", "sizes 2 2 2 2\nin 0\nfor 2: 0@0(1) -> 1@0(1): load 0, neg 0\nfor 2: 1@0(1) -> 2@0(1): load 0, inv 0\nfor 2: 2@0(1) -> 3@0(1): load 0, step 0\nout 3", "sizes 2 2 2 2\nin 0\nfor 2: 0@0(1) -> 3@0(1): load 0, neg 0, inv 1, step 2\nout 3"},
		// One that is loaded twice by one kernel; its Loads leave, others move up.
		{"fused", "sizes 2 2 2 2\nin 0 3\nfor 2: 0@0(1) 3@1(-1) -> 1@0(1): load 1, load 0, sub 0 1\nfor 2: 1@0(1) 3@0(1) 1@0(1) 0@1(0) +> 2@0(1): load 2, load 1, load 0, mul 0 2, load 3, add 3 4, add 5 1\nout 2", "sizes 2 2 2 2\nin 0 3\nfor 2: 3@0(1) 0@1(0) 0@0(1) 3@1(-1) +> 2@0(1): load 3, load 2, sub 0 1, load 0, mul 2 2, load 1, add 4 5, add 6 3\nout 2"},
		// Loaded by two kernels.
		{"loaders", "sizes 2 2 2 2\nin 0\nfor 2: 0@0(1) -> 1@0(1): load 0, neg 0\nfor 2: 1@0(1) -> 2@0(1): load 0, inv 0\nfor 2: 1@0(1) -> 3@0(1): load 0, inv 0\nout 2 3", ""},
		// Loaded by none.
		{"loaders", "sizes 2 2 2\nin 0\nfor 2: 0@0(1) -> 1@0(1): load 0, neg 0\nfor 2: 0@0(1) -> 2@0(1): load 0, inv 0\nout 2", ""},
		// A kernel with a Load of it but no KLoad takes it in all the same.
		{"fused", "sizes 2 2 2\nin 0\nfor 2: 0@0(1) -> 1@0(1): load 0, neg 0\nfor 2: 1@0(1) -> 2@0(1): const 4\nout 2", "sizes 2 2 2\nin 0\nfor 2: 0@0(1) -> 2@0(1): load 0, neg 0, const 4\nout 2"},
		// Each of the other conditions alone.
		{"sum", "sizes 2 2 2\nin 0\nfor 2: 0@0(1) +> 1@0(1): load 0, neg 0\nfor 2: 1@0(1) -> 2@0(1): load 0, inv 0\nout 2", ""},
		{"plain", "sizes 6 6 6\nin 0\nfor 2 3: 0@0(3 1) -> 1@0(1 2): load 0, neg 0\nfor 2 3: 1@0(1 2) -> 2@0(3 1): load 0, inv 0\nout 2", ""},
		{"plain", "sizes 2 2 2\nin 0\nfor 2: 0@0(1) -> 1@0(0): load 0, neg 0\nfor 2: 1@0(0) -> 2@0(1): load 0, inv 0\nout 2", ""},
		{"size", "sizes 2 3 2\nin 0\nfor 2: 0@0(1) -> 1@0(1): load 0, neg 0\nfor 2: 1@0(1) -> 2@0(1): load 0, inv 0\nout 2", ""},
		{"size", "sizes 2 2 2\nin 0\nfor: 0@0() -> 1@0(): load 0, neg 0\nfor: 1@0() -> 2@0(): load 0, inv 0\nout 2", ""},
		{"out", "sizes 2 2 2\nin 0\nfor 2: 0@0(1) -> 1@0(1): load 0, neg 0\nfor 2: 1@0(1) -> 2@0(1): load 0, inv 0\nout 2 1", ""},
		{"stored", "sizes 2 2 2\nin 0\nfor 2: 0@0(1) -> 1@0(1): load 0, neg 0\nfor 2: 0@0(1) +> 1@0(1): load 0\nfor 2: 1@0(1) -> 2@0(1): load 0, inv 0\nout 2", ""},
		{"stored", "sizes 2 2 2\nin 0\nfor 2: 0@0(1) -> 1@0(1): load 0\nfor 2: 0@0(1) -> 1@0(1): load 0, neg 0\nfor 2: 1@0(1) -> 2@0(1): load 0, inv 0\nout 2", ""},
		{"stored", "sizes 2 2 2\nin 0\nfor 2: 0@0(1) -> 1@0(1): load 0, neg 0\nfor 2: 1@0(1) -> 2@0(1): load 0, inv 0\nfor: -> 1@0(): const 3\nout 2", ""},
		{"ahead", "sizes 2 2 2\nin 0\nfor 2: 1@0(1) -> 2@0(1): load 0, inv 0\nfor 2: 0@0(1) -> 1@0(1): load 0, neg 0\nout 2", ""},
		// What p loads is changed between, by c itself, and behind c.
		{"changed", "sizes 2 2 2 2\nin 0\nfor 2: 3@0(1) -> 1@0(1): load 0, neg 0\nfor 2: 0@0(1) -> 3@0(1): load 0\nfor 2: 1@0(1) -> 2@0(1): load 0, inv 0\nout 2", ""},
		{"changed", "sizes 2 2 2\nin 0\nfor 2: 2@0(1) -> 1@0(1): load 0, neg 0\nfor 2: 1@0(1) -> 2@0(1): load 0, inv 0\nout 2", ""},
		{"changed", "sizes 2 2 2 2\nin 0\nfor 2: 3@0(1) -> 1@0(1): load 0, neg 0\nfor 2: 1@0(1) -> 2@0(1): load 0, inv 0\nfor 2: 0@0(1) -> 3@0(1): load 0\nout 2", ""},
		// It was stored ahead of p alone.
		{"fused", "sizes 2 2 2 2\nin 0\nfor 2: 0@0(1) +> 3@0(1): load 0\nfor 2: 3@0(1) -> 1@0(1): load 0, neg 0\nfor 2: 1@0(1) -> 2@0(1): load 0, inv 0\nout 2", "sizes 2 2 2 2\nin 0\nfor 2: 0@0(1) +> 3@0(1): load 0\nfor 2: 3@0(1) -> 2@0(1): load 0, neg 0, inv 1\nout 2"},
		{"loaders", "sizes 2 2 2\nin 0\nfor 2: 0@0(1) -> 1@0(1): load 0, neg 0\nfor: 1@1() -> 2@0(): load 0, inv 0\nfor: 1@0() -> 2@1(): load 0, inv 0\nout 2", ""},
		// Kernels between p and c stay where they are; c stays in its place.
		{"fused", "sizes 2 2 2 2\nin 0\nfor 2: 0@0(1) -> 1@0(1): load 0, neg 0\nfor 2: 0@0(1) -> 3@0(1): load 0\nfor 2: 1@0(1) -> 2@0(1): load 0, inv 0\nfor 2: 3@0(1) +> 2@0(1): load 0\nout 2 3", "sizes 2 2 2 2\nin 0\nfor 2: 0@0(1) -> 3@0(1): load 0\nfor 2: 0@0(1) -> 2@0(1): load 0, neg 0, inv 1\nfor 2: 3@0(1) +> 2@0(1): load 0\nout 2 3"},
		// A kernel that only hands on.
		{"fused", "sizes 2 2 2\nin 0\nfor 2: 0@0(1) -> 1@0(1): load 0, neg 0\nfor 2: 1@0(1) -> 2@0(1): load 0\nout 2", "sizes 2 2 2\nin 0\nfor 2: 0@0(1) -> 2@0(1): load 0, neg 0\nout 2"},
		{"fused", "sizes 2 2 2\nin 0\nfor 2: 0@1(-1) -> 1@0(1): load 0\nfor 2: 1@0(1) -> 2@0(1): load 0, neg 0\nout 2", "sizes 2 2 2\nin 0\nfor 2: 0@1(-1) -> 2@0(1): load 0, neg 0\nout 2"},
		// Code without Loads, and with steps that nothing needs.
		{"fused", "sizes 2 2\nfor 2: -> 0@0(1): const 5, const 6, add 0 0\nfor 2: 0@0(1) -> 1@1(-1): const 3, load 0, mul 0 1\nout 1", "sizes 2 2\nfor 2: -> 1@1(-1): const 5, const 6, add 0 0, const 3, mul 3 2\nout 1"},
		// What stands for the last KLoad is not put last.
		{"fused", "sizes 2 2 2\nin 0\nfor 2: 0@0(1) -> 1@0(1): load 0, neg 0\nfor 2: 1@0(1) 0@0(1) -> 2@0(1): load 1, load 0\nout 2", "sizes 2 2 2\nin 0\nfor 2: 0@0(1) 0@0(1) -> 2@0(1): load 1, neg 0, load 0\nout 2"},
		// Nothing to fuse.
		{"", "sizes", ""}, {"", "sizes 2\nin 0\nout 0", ""}, {"", "sizes 2 2\nin 0\nfix 1 3 4\nout 1", ""},
	})
}

func TestFuseOfPartners(t *testing.T) {
	checkFuseRows(t, []fuseRow{
		// Turned round, summed over, spread.
		{"fused", "sizes 6 6 6\nin 0\nfor 2 3: 0@0(3 1) -> 1@0(3 1): load 0, neg 0\nfor 3 2: 1@0(1 3) -> 2@0(2 1): load 0\nout 2", "sizes 6 6 6\nin 0\nfor 3 2: 0@0(1 3) -> 2@0(2 1): load 0, neg 0\nout 2"},
		{"fused", "sizes 6 6 2\nin 0\nfor 2 3: 0@5(-3 -1) -> 1@0(3 1): load 0, neg 0\nfor 2 3: 1@0(3 1) +> 2@0(1 0): load 0\nout 2", "sizes 6 6 2\nin 0\nfor 2 3: 0@5(-3 -1) +> 2@0(1 0): load 0, neg 0\nout 2"},
		{"fused", "sizes 3 3 6\nin 0\nfor 3: 0@2(-1) -> 1@0(1): load 0, neg 0\nfor 2 3: 1@0(0 1) -> 2@0(3 1): load 0\nout 2", "sizes 3 3 6\nin 0\nfor 2 3: 0@2(0 -1) -> 2@0(3 1): load 0, neg 0\nout 2"},
		// Partners of the same length.
		{"fused", "sizes 4 4 4\nin 0\nfor 2 2: 0@0(2 1) -> 1@0(2 1): load 0, neg 0\nfor 2 2: 1@0(1 2) -> 2@0(2 1): load 0\nout 2", "sizes 4 4 4\nin 0\nfor 2 2: 0@0(1 2) -> 2@0(2 1): load 0, neg 0\nout 2"},
		{"fused", "sizes 4 4 8\nin 0\nfor 2 2: 0@1(2 -1) -> 1@0(2 1): load 0, neg 0\nfor 2 2 2: 1@0(0 1 2) -> 2@0(4 2 1): load 0\nout 2", "sizes 4 4 8\nin 0\nfor 2 2 2: 0@1(0 -1 2) -> 2@0(4 2 1): load 0, neg 0\nout 2"},
		{"differ", "sizes 4 4 4\nin 0\nfor 2 2: 0@0(2 1) -> 1@0(2 1): load 0, neg 0\nfor 2 2: 1@0(1 2) 1@0(2 1) -> 2@0(2 1): load 0, load 1, add 0 1\nout 2", ""},
		{"differ", "sizes 2 2 4\nin 0\nfor 2: 0@0(1) -> 1@0(1): load 0, neg 0\nfor 2 2: 1@0(0 1) 1@0(1 0) -> 2@0(2 1): load 0, load 1, mul 0 1\nout 2", ""},
		{"differ", "sizes 2 2 4\nin 0\nfor 2: 0@0(1) -> 1@0(1): load 0, neg 0\nfor 2 2: 1@0(0 1) 1@0(0 1) 1@0(1 0) -> 2@0(2 1): load 0, load 1, mul 0 1\nout 2", ""},
		// Lengths of 1 want partners too.
		{"fused", "sizes 3 3 3\nin 0\nfor 1 3: 0@0(0 1) -> 1@0(0 1): load 0, neg 0\nfor 1 3: 1@0(0 1) -> 2@0(0 1): load 0\nout 2", "sizes 3 3 3\nin 0\nfor 1 3: 0@0(0 1) -> 2@0(0 1): load 0, neg 0\nout 2"},
		{"fused", "sizes 3 3 3\nin 0\nfor 1 3 1: 0@0(0 1 0) -> 1@0(0 1 0): load 0, neg 0\nfor 3 1 1 1: 1@0(1 0 0 0) -> 2@0(1 0 0 0): load 0\nout 2", "sizes 3 3 3\nin 0\nfor 3 1 1 1: 0@0(1 0 0 0) -> 2@0(1 0 0 0): load 0, neg 0\nout 2"},
		{"partner", "sizes 3 3 3\nin 0\nfor 1 3: 0@0(0 1) -> 1@0(0 1): load 0, neg 0\nfor 3: 1@0(1) -> 2@0(1): load 0\nout 2", ""}, {"partner", "sizes 1 1 1\nin 0\nfor 1 1: 0@0(0 0) -> 1@0(0 0): load 0, neg 0\nfor 1: 1@0(0) -> 2@0(0): load 0\nout 2", ""}, {"partner", "sizes 1 1 1\nin 0\nfor 1: 0@0(0) -> 1@0(0): load 0, neg 0\nfor: 1@0() -> 2@0(): load 0\nout 2", ""},
		{"fused", "sizes 1 1 1\nin 0\nfor: 0@0() -> 1@0(): load 0, neg 0\nfor 1: 1@0(0) -> 2@0(0): load 0\nout 2", "sizes 1 1 1\nin 0\nfor 1: 0@0(0) -> 2@0(0): load 0, neg 0\nout 2"},
		{"fused", "sizes 4 1 6\nin 0\nfor: 0@3() -> 1@0(): load 0, neg 0\nfor 2 3: 1@0(0 0) 1@0(0 0) -> 2@0(3 1): load 0, load 1, mul 0 1\nout 2", "sizes 4 1 6\nin 0\nfor 2 3: 0@3(0 0) -> 2@0(3 1): load 0, neg 0, mul 1 1\nout 2"},
		{"fused", "sizes 1 1 2\nin 0\nfor 1: 0@0(0) -> 1@0(0): load 0, neg 0\nfor 2 1: 1@0(0 0) -> 2@0(1 0): load 0\nout 2", "sizes 1 1 2\nin 0\nfor 2 1: 0@0(0 0) -> 2@0(1 0): load 0, neg 0\nout 2"},
		{"partner", "sizes 1 1 2\nin 0\nfor 1: 0@0(0) -> 1@0(0): load 0, neg 0\nfor 2: 1@0(0) -> 2@0(1): load 0\nout 2", ""},
		// Another length, another step, another offset.
		{"partner", "sizes 4 4 2\nin 0\nfor 4: 0@0(1) -> 1@0(1): load 0, neg 0\nfor 2: 1@0(1) -> 2@0(1): load 0\nout 2", ""}, {"partner", "sizes 4 4 2\nin 0\nfor 4: 0@0(1) -> 1@0(1): load 0, neg 0\nfor 2: 1@0(2) -> 2@0(1): load 0\nout 2", ""}, {"partner", "sizes 4 4 4\nin 0\nfor 2 2: 0@0(2 1) -> 1@0(2 1): load 0, neg 0\nfor 4: 1@0(1) -> 2@0(1): load 0\nout 2", ""},
		{"partner", "sizes 4 4 4\nin 0\nfor 4: 0@0(1) -> 1@0(1): load 0, neg 0\nfor 2 2: 1@0(2 1) -> 2@0(2 1): load 0\nout 2", ""}, {"partner", "sizes 3 3 3\nin 0\nfor 3: 0@0(1) -> 1@0(1): load 0, neg 0\nfor 3: 1@0(0) -> 2@0(1): load 0\nout 2", ""},
		{"fused", "sizes 2 2 2\nin 0\nfor 2: 0@0(1) -> 1@0(1): load 0, neg 0\nfor 2: 1@0(1) 1@0(1) -> 2@0(1): load 0, load 1, add 0 1\nout 2\n", "sizes 2 2 2\nin 0\nfor 2: 0@0(1) -> 2@0(1): load 0, neg 0, add 1 1\nout 2"},
		{"fused", "sizes 6 6 3\nin 0\nfor 2 3: 0@0(3 1) -> 1@0(3 1): load 0, neg 0\nfor 2 3 1: 1@0(3 1 0) -> 2@0(0 1 0): load 0\nout 2", "sizes 6 6 3\nin 0\nfor 2 3 1: 0@0(3 1 0) -> 2@0(0 1 0): load 0, neg 0\nout 2"},
		{"partner", "sizes 4 4 4\nin 0\nfor 2 2: 0@0(2 1) -> 1@0(2 1): load 0, neg 0\nfor 2 2: 1@0(1 1) -> 2@0(2 1): load 0\nout 2", ""},
	})
}

// pairOf is a nest of a kernel that stores in buffer 1 and one that loads it,
// with so many Loads and steps of Code each; mine are the Loads of buffer 1, with
// a KLoad each.
func pairOf(loads int, code int, others int, mine int, behind int) impl.Nest {
	l := nestIn("sizes 2 2 2\nin 0\nfor 2: -> 1@0(1): const 3\nfor 2: -> 2@0(1): const 4\nout 2")
	p, c := &l.Kernels[0], &l.Kernels[1]
	p.Loads = accessesIn(strings.Repeat("0@0(1) ", loads))
	p.Code = codeIn(strings.Repeat("const 3,", code))
	c.Loads = accessesIn(strings.Repeat("0@1(-1) ", others) + strings.Repeat("1@0(1) ", mine))
	c.Code = codeIn(strings.Repeat("const 4,", behind))
	for at := range mine {
		c.Code = append(c.Code, impl.Calc{Op: impl.KLoad, A: others + at})
	}
	c.Code = append(c.Code, impl.Calc{Op: impl.KNeg, A: len(c.Code) - 1})
	return l
}

func TestFuseAtLimits(t *testing.T) {
	rows := []struct {
		why  string
		nest impl.Nest
	}{
		{"fused", pairOf(30, 1, 0, 1, 0)}, {"fused", pairOf(15, 1, 15, 1, 0)}, {"loads", pairOf(15, 1, 16, 1, 0)}, {"loads", pairOf(30, 1, 1, 1, 0)}, {"fused", pairOf(1, 1, 29, 1, 0)}, {"fused", pairOf(0, 1, 29, 1, 0)}, {"loads", pairOf(2, 1, 29, 1, 0)}, {"fused", pairOf(15, 1, 15, 15, 0)}, {"loads", pairOf(16, 1, 15, 15, 0)}, {"fused", pairOf(30, 1, 0, 30, 0)},
		{"fused", pairOf(1, 59, 0, 1, 0)}, {"code", pairOf(1, 60, 0, 1, 0)}, {"fused", pairOf(1, 30, 0, 1, 29)}, {"code", pairOf(1, 31, 0, 1, 29)}, {"fused", pairOf(1, 30, 0, 29, 29)}, {"code", pairOf(1, 31, 0, 29, 29)}, {"fused", pairOf(1, 1, 0, 1, 58)}, {"code", pairOf(1, 2, 0, 1, 58)}, {"fused", pairOf(30, 59, 0, 30, 0)},
	}
	for at, row := range rows {
		alone := map[string]int{}
		if !checkNestOk(t, row.nest) {
			t.Fatalf("row %d is refused", at)
		}
		fused := checkFuse(t, row.nest, alone)
		if alone[row.why] == 0 || (len(fused.Kernels) == 1) != (row.why == "fused") {
			t.Errorf("row %d: not %q: %v", at, row.why, alone)
		}
	}
	// One that does not fit is passed over: those behind it are looked at.
	l := pairOf(30, 1, 1, 1, 0)
	l.Sizes, l.Outs = append(l.Sizes, 2), ints(3)
	l.Kernels = append(l.Kernels, kernelIn("for 2: 2@0(1) -> 3@0(1): load 0, neg 0"))
	if fused := checkFuse(t, l, map[string]int{}); len(fused.Kernels) != 2 || len(fused.Kernels[0].Loads) != 30 || len(fused.Kernels[1].Loads) != 2 {
		t.Errorf("passed over:\n%s", nestText(fused))
	}
	// A chain of many: the first leaves first, until the Code is full.
	many := nestIn("sizes 2\nin 0")
	for at := range 199 {
		many.Sizes = append(many.Sizes, 2)
		many.Kernels = append(many.Kernels, kernelIn(fmt.Sprintf("for 2: %d@0(1) -> %d@0(1): load 0, neg 0", at, at+1)))
	}
	many.Outs = ints(199)
	fused := checkFuse(t, many, map[string]int{})
	if len(fused.Kernels) != 4 || len(fused.Kernels[0].Code) != 60 || len(fused.Kernels[3].Code) != 23 {
		t.Errorf("a chain of 199 comes to\n%s", nestText(fused))
	}
	if got := impl.RunNest(fused, [][]int{{3, 4}}); !sameLists(got, [][]int{{impl.Prime - 3, impl.Prime - 4}}) {
		t.Errorf("a chain of 199 gives %v", got)
	}
}

// 400 kernels of which nearly all leave, and 400 of which none does.
func TestFuseOfManyKernels(t *testing.T) {
	l := nestIn("sizes 2 2\nin 0\nout 1")
	for at := range 198 {
		l.Sizes = append(l.Sizes, 2)
		l.Kernels = append(l.Kernels, kernelIn(fmt.Sprintf("for 2: 0@0(1) -> %d@0(1): load 0, neg 0", at+2)))
	}
	for at := range 198 {
		l.Kernels = append(l.Kernels, kernelIn(fmt.Sprintf("for 2: %d@0(1) +> 1@0(1): load 0, neg 0", at+2)))
	}
	for range 4 {
		l.Kernels = append(l.Kernels, kernelIn("for 2: 0@0(1) +> 1@0(1): load 0"))
	}
	fused := checkFuse(t, l, map[string]int{})
	if len(fused.Kernels) != 202 || !sameLists(checkRun(t, fused, [][]int{{1, 2}}), [][]int{{202, 404}}) {
		t.Errorf("%d kernels are left", len(fused.Kernels))
	}
	full := nestIn("sizes 2 2\nin 0\nout 1")
	for range 400 {
		full.Kernels = append(full.Kernels, kernelIn("for 2: "+strings.Repeat("0@0(1) ", 30)+"+> 1@0(1): "+strings.Repeat("load 29,", 60)))
	}
	if fused := checkFuse(t, full, map[string]int{}); len(fused.Kernels) != 400 {
		t.Errorf("of 400 kernels %d are left", len(fused.Kernels))
	}
}

// wantTile says what the document says of Tile.
func wantTile(k impl.Kernel, axis int, size int) (impl.Kernel, bool) {
	if axis < 0 || axis >= len(k.Loops) || !allSteps(k) || size < 1 || k.Loops[axis]%size != 0 || len(k.Loops)+1 > 12 {
		return impl.Kernel{}, false
	}
	k = copiedKernel(k)
	k.Loops[axis] /= size
	outer := k.Loops[axis]
	k.Loops = append(k.Loops, size)
	cut := func(a *impl.Access) {
		inner, wide := a.Steps[axis], a.Steps[axis]*size
		if outer == 1 {
			wide = 0
		}
		if size == 1 {
			inner = 0
		}
		a.Steps[axis] = wide
		a.Steps = append(a.Steps, inner)
	}
	cut(&k.Store)
	for at := range k.Loads {
		cut(&k.Loads[at])
	}
	return k, true
}

func allSteps(k impl.Kernel) bool {
	return !slices.ContainsFunc(append(slices.Clone(k.Loads), k.Store), func(a impl.Access) bool { return len(a.Steps) != len(k.Loops) })
}

// wantReorder says what the document says of Reorder.
func wantReorder(k impl.Kernel, order []int) (impl.Kernel, bool) {
	sorted := slices.Clone(order)
	slices.Sort(sorted)
	if !slices.Equal(sorted, firstNumbers(len(k.Loops))) || !allSteps(k) {
		return impl.Kernel{}, false
	}
	made := copiedKernel(k)
	for at, old := range order {
		made.Loops[at], made.Store.Steps[at] = k.Loops[old], k.Store.Steps[old]
		for i := range k.Loads {
			made.Loads[i].Steps[at] = k.Loads[i].Steps[old]
		}
	}
	return made, true
}

func checkTile(t *testing.T, k impl.Kernel, axis int, size int) (impl.Kernel, bool) {
	t.Helper()
	got, ok := impl.Tile(k, axis, size)
	want, there := wantTile(k, axis, size)
	if ok != there || !sameKernel(got, want) {
		t.Fatalf("Tile(%s, %d, %d) is %v %s, not %v %s", kernelText(k), axis, size, ok, kernelText(got), there, kernelText(want))
	}
	return got, ok
}

func checkReorder(t *testing.T, k impl.Kernel, order []int) (impl.Kernel, bool) {
	t.Helper()
	got, ok := impl.Reorder(k, order)
	want, there := wantReorder(k, order)
	if ok != there || !sameKernel(got, want) {
		t.Fatalf("Reorder(%s, %v) is %v %s, not %v %s", kernelText(k), order, ok, kernelText(got), there, kernelText(want))
	}
	return got, ok
}

// meetsTwice asks whether the Store meets a place twice.
func meetsTwice(k impl.Kernel) bool {
	places := placesOf(k.Store, k.Loops)
	slices.Sort(places)
	return len(slices.Compact(slices.Clone(places))) < len(places)
}

// mixed is the kernel, cut and reordered a few times, and how often.
func mixed(t *testing.T, source *rand.Rand, k impl.Kernel) (impl.Kernel, int) {
	t.Helper()
	times := 0
	for range 1 + source.Intn(4) {
		if source.Intn(2) == 0 {
			made, ok := checkReorder(t, k, source.Perm(len(k.Loops)))
			if !ok {
				t.Fatalf("%s is not reordered", kernelText(k))
			}
			k = made
			times++
			continue
		}
		if len(k.Loops) == 0 {
			continue
		}
		axis := source.Intn(len(k.Loops))
		if made, ok := checkTile(t, k, axis, 1+source.Intn(k.Loops[axis])); ok {
			k = made
			times++
		}
	}
	return k, times
}

// P30: kernels of nests, cut and reordered in turns, where no place of a Store is
// met twice, or with Sum.
func TestTiledAndReorderedGiveTheSame(t *testing.T) {
	source := rand.New(rand.NewSource(169))
	nests := someNests(600, 170)
	for _, g := range slices.Concat(goodGraphs(), slopeGraphs(), someGraphs(150, 171)) {
		if l, ok := impl.Lower(g); ok && len(g.Nodes) < 60 {
			nests = append(nests, l, impl.Fuse(l))
		}
	}
	count, summed := 0, 0
	for _, l := range nests {
		changed := copiedNest(l)
		for at, k := range changed.Kernels {
			if k.Sum || !meetsTwice(k) {
				made, times := mixed(t, source, k)
				changed.Kernels[at] = made
				count += times
				if k.Sum && times > 0 && meetsTwice(k) {
					summed++
				}
			}
		}
		ins := insFor(source, l)
		if got, want := impl.RunNest(changed, ins), impl.RunNest(l, ins); !impl.NestOk(changed) || !sameLists(got, want) {
			t.Fatalf("cut and reordered,\n%sgives %v, not %v:\n%s", nestText(l), got, want, nestText(changed))
		}
	}
	if count < 2000 || summed < 80 {
		t.Errorf("%d times, %d kernels with Sum that meet a place twice", count, summed)
	}
}

func TestTileRows(t *testing.T) {
	six := "for 6 4: 0@3(4 1) 1@5(0 -1) +> 2@0(1 6): load 0, load 1, mul 0 1"
	rows := []struct {
		kernel string
		axis   int
		size   int
		want   string
	}{
		{six, 0, 2, "for 3 4 2: 0@3(8 1 4) 1@5(0 -1 0) +> 2@0(2 6 1): load 0, load 1, mul 0 1"}, {six, 0, 3, "for 2 4 3: 0@3(12 1 4) 1@5(0 -1 0) +> 2@0(3 6 1): load 0, load 1, mul 0 1"}, {six, 1, 2, "for 6 2 2: 0@3(4 2 1) 1@5(0 -2 -1) +> 2@0(1 12 6): load 0, load 1, mul 0 1"},
		// A size of 1, and of the whole length.
		{six, 0, 1, "for 6 4 1: 0@3(4 1 0) 1@5(0 -1 0) +> 2@0(1 6 0): load 0, load 1, mul 0 1"}, {six, 0, 6, "for 1 4 6: 0@3(0 1 4) 1@5(0 -1 0) +> 2@0(0 6 1): load 0, load 1, mul 0 1"}, {six, 1, 4, "for 6 1 4: 0@3(4 0 1) 1@5(0 0 -1) +> 2@0(1 0 6): load 0, load 1, mul 0 1"},
		{"for 1: 0@0(0) -> 1@0(0): load 0", 0, 1, "for 1 1: 0@0(0 0) -> 1@0(0 0): load 0"}, {"for 2: 0@1(-1) -> 1@0(1): load 0", 0, 2, "for 1 2: 0@1(0 -1) -> 1@0(0 1): load 0"},
		// What does not divide, and what is no size.
		{six, 0, 4, ""}, {six, 0, 5, ""}, {six, 0, 7, ""}, {six, 0, 12, ""}, {six, 1, 3, ""}, {six, 0, 0, ""}, {six, 0, -1, ""}, {six, 0, -2, ""}, {six, 0, -6, ""}, {six, 0, math.MinInt, ""}, {six, 0, math.MaxInt, ""}, {"for 1: 0@0(0) -> 1@0(0): load 0", 0, 2, ""},
		// What is no loop.
		{six, -1, 2, ""}, {six, 2, 2, ""}, {six, 3, 1, ""}, {six, math.MinInt, 2, ""}, {six, math.MaxInt, 2, ""}, {"for: 0@0() -> 1@0(): load 0", 0, 1, ""}, {"for: 0@0() -> 1@0(): load 0", -1, 1, ""},
		// Steps that are not as many.
		{"for 6 4: 0@3(4) 1@5(0 -1) +> 2@0(1 6): load 0", 0, 2, ""}, {"for 6 4: 0@3(4 1) 1@5(0 -1 0) +> 2@0(1 6): load 0", 0, 2, ""}, {"for 6 4: 0@3(4 1) +> 2@0(1): load 0", 0, 2, ""}, {"for 6 4: 0@3(4 1) +> 2@0(1 6 0): load 0", 0, 2, ""}, {"for 6 4: 0@3() +> 2@0(): load 0", 0, 2, ""}, {"for 6: 0@3(4) +> 2@0(): load 0", 0, 2, ""},
		// Whatever else a kernel has, right or wrong, stays as it is.
		{"for 6: -7@-9(-4) +> 99@-3(5): load 7, neg -4, relu 3 3", 0, 2, "for 3 2: -7@-9(-8 -4) +> 99@-3(10 5): load 7, neg -4, relu 3 3"}, {"for 6: -> 2@0(1):", 0, 3, "for 2 3: -> 2@0(3 1):"}, {"for 1 6: 0@0(5 1) -> 2@0(7 1): load 0", 1, 2, "for 1 3 2: 0@0(5 2 1) -> 2@0(7 2 1): load 0"}, {"for 1: 0@0(5) -> 2@0(7): load 0", 0, 1, "for 1 1: 0@0(0 0) -> 2@0(0 0): load 0"},
		{"for 0: 0@0(5) -> 2@0(7): load 0", 0, 3, "for 0 3: 0@0(15 5) -> 2@0(21 7): load 0"}, {"for -6: 0@0(5) -> 2@0(7): load 0", 0, 3, "for -2 3: 0@0(15 5) -> 2@0(21 7): load 0"}, {"for -6: 0@0(5) -> 2@0(7): load 0", 0, 4, ""},
	}
	for _, row := range rows {
		got, ok := checkTile(t, kernelIn(row.kernel), row.axis, row.size)
		if ok != (row.want != "") || ok && kernelText(got) != row.want || !ok && !sameKernel(got, impl.Kernel{}) {
			t.Errorf("Tile(%s, %d, %d) is %v %s", row.kernel, row.axis, row.size, ok, kernelText(got))
		}
	}
}

func TestTileAtLimits(t *testing.T) {
	many := func(count int) impl.Kernel {
		steps := firstNumbers(count)
		return impl.Kernel{Loops: slices.Repeat(ints(2), count), Loads: []impl.Access{{Buffer: 0, Steps: steps}}, Store: impl.Access{Buffer: 1, Steps: slices.Clone(steps)}, Code: codeIn("load 0")}
	}
	for count := 1; count < 16; count++ {
		for _, size := range ints(1, 2) {
			made, ok := checkTile(t, many(count), count-1, size)
			if ok != (count < 12) || ok && len(made.Loops) != count+1 {
				t.Errorf("%d loops: %v", count, ok)
			}
		}
	}
	// Steps are multiplied as ints, which may wrap round.
	great := impl.Kernel{Loops: ints(12), Loads: []impl.Access{{Steps: ints(math.MaxInt)}, {Steps: ints(1 << 62)}, {Steps: ints(math.MinInt)}}, Store: impl.Access{Steps: ints(math.MaxInt/3 + 1)}}
	got, ok := checkTile(t, great, 0, 4)
	store := math.MaxInt/3 + 1
	store *= 4
	if !ok || !slices.Equal(got.Loads[0].Steps, ints(-4, math.MaxInt)) || !slices.Equal(got.Loads[1].Steps, ints(0, 1<<62)) || !slices.Equal(got.Loads[2].Steps, ints(0, math.MinInt)) || !slices.Equal(got.Store.Steps, ints(store, math.MaxInt/3+1)) {
		t.Errorf("great steps come to %s", kernelText(got))
	}
	wide := impl.Kernel{Loops: ints(math.MaxInt, math.MinInt), Store: impl.Access{Steps: ints(1, 1)}}
	if got, ok := checkTile(t, wide, 0, math.MaxInt); !ok || !slices.Equal(got.Loops, ints(1, math.MinInt, math.MaxInt)) || !slices.Equal(got.Store.Steps, ints(0, 1, 1)) {
		t.Errorf("the greatest size gives %s", kernelText(got))
	}
	if got, ok := checkTile(t, wide, 1, 2); !ok || !slices.Equal(got.Loops, ints(math.MaxInt, math.MinInt/2, 2)) {
		t.Errorf("the least length gives %s", kernelText(got))
	}
	loads := kernelIn("for 4: " + strings.Repeat("0@0(1) ", 50) + "-> 1@0(1): " + strings.Repeat("load 0,", 100))
	if got, ok := checkTile(t, loads, 0, 2); !ok || len(got.Loads) != 50 || len(got.Code) != 100 {
		t.Error("many Loads and much Code are not cut")
	}
}

func TestReorderRows(t *testing.T) {
	three := "for 2 3 4: 0@1(12 4 1) 1@2(0 -1 5) +> 2@3(3 2 1): load 0, load 1, mul 0 1"
	none := "for: 0@0() -> 1@0(): load 0"
	rows := []struct {
		kernel string
		order  []int
		want   string
	}{
		{three, ints(0, 1, 2), three}, {three, ints(2, 0, 1), "for 4 2 3: 0@1(1 12 4) 1@2(5 0 -1) +> 2@3(1 3 2): load 0, load 1, mul 0 1"}, {three, ints(1, 2, 0), "for 3 4 2: 0@1(4 1 12) 1@2(-1 5 0) +> 2@3(2 1 3): load 0, load 1, mul 0 1"}, {three, ints(1, 0, 2), "for 3 2 4: 0@1(4 12 1) 1@2(-1 0 5) +> 2@3(2 3 1): load 0, load 1, mul 0 1"},
		{three, ints(0, 1), ""}, {three, ints(0, 1, 2, 3), ""}, {three, ints(0, 1, 2, 0), ""}, {three, nil, ""}, {three, ints(0, 1, 1), ""}, {three, ints(2, 2, 2), ""}, {three, ints(0, 1, 3), ""}, {three, ints(-1, 0, 1), ""}, {three, ints(1, 2, 3), ""}, {three, ints(0, 1, math.MinInt), ""}, {three, ints(0, 1, math.MaxInt), ""},
		{none, nil, none}, {none, ints(), none}, {none, ints(0), ""}, {none, ints(-1), ""},
		{"for 5: 0@0(1) -> 1@0(1): load 0", ints(0), "for 5: 0@0(1) -> 1@0(1): load 0"}, {"for 5: 0@0(1) -> 1@0(1): load 0", ints(1), ""},
		{"for 2 3: 0@0(1) -> 1@0(1 2): load 0", ints(1, 0), ""}, {"for 2 3: 0@0(1 2 3) -> 1@0(1 2): load 0", ints(1, 0), ""}, {"for 2 3: 0@0(1 2) -> 1@0(1): load 0", ints(1, 0), ""}, {"for 2 3: 0@0(1 2) -> 1@0(1 2 3): load 0", ints(1, 0), ""}, {"for 2 3: 0@0(1 2) 0@0() -> 1@0(1 2): load 0", ints(0, 1), ""}, {"for: 0@0(1) -> 1@0(): load 0", nil, ""}, {"for: 0@0() -> 1@0(1): load 0", nil, ""},
		// Whatever else a kernel has, right or wrong, stays as it is.
		{"for 0 -3: -7@-9(-4 9223372036854775807) -> 99@-3(5 6): neg -4, relu 3 3", ints(1, 0), "for -3 0: -7@-9(9223372036854775807 -4) -> 99@-3(6 5): neg -4, relu 3 3"}, {"for 1 2: 0@0(7 1) -> 1@0(8 1):", ints(1, 0), "for 2 1: 0@0(1 7) -> 1@0(1 8):"},
	}
	for _, row := range rows {
		got, ok := checkReorder(t, kernelIn(row.kernel), row.order)
		if ok != (row.want != "") || ok && kernelText(got) != row.want || !ok && !sameKernel(got, impl.Kernel{}) {
			t.Errorf("Reorder(%s, %v) is %v %s", row.kernel, row.order, ok, kernelText(got))
		}
	}
	if got, ok := checkReorder(t, impl.Kernel{}, nil); !ok || !sameKernel(got, impl.Kernel{}) {
		t.Error("the empty kernel is not reordered")
	}
	// More loops than a kernel may have are reordered, too.
	long := impl.Kernel{Loops: firstNumbers(5000), Store: impl.Access{Steps: firstNumbers(5000)}}
	back := firstNumbers(5000)
	slices.Reverse(back)
	if got, ok := checkReorder(t, long, back); !ok || !slices.Equal(got.Loops, back) || !slices.Equal(got.Store.Steps, back) {
		t.Error("5000 loops are not reordered")
	}
}

func TestTileAndReorderOfRandomKernels(t *testing.T) {
	source := rand.New(rand.NewSource(172))
	sizes := append(wrongInts(), 0, 1, 2, 3, 4, 6)
	tiled, ordered, not := 0, 0, 0
	for _, l := range someNests(300, 173) {
		for range 4 {
			spoilt := spoiltNest(source, l)
			for _, k := range spoilt.Kernels {
				axis := source.Intn(len(k.Loops)+3) - 1
				if _, ok := checkTile(t, k, axis, sizes[source.Intn(len(sizes))]); ok {
					tiled++
				} else {
					not++
				}
				order := source.Perm(len(k.Loops))
				if len(order) > 0 && source.Intn(3) == 0 {
					order[source.Intn(len(order))] += source.Intn(3) - 1
				}
				if _, ok := checkReorder(t, k, order[:max(0, len(order)-source.Intn(8)/7)]); ok {
					ordered++
				} else {
					not++
				}
			}
		}
	}
	if tiled < 100 || ordered < 1000 || not < 1000 {
		t.Errorf("%d are cut, %d reordered, %d not", tiled, ordered, not)
	}
}

// A room is a piece of memory.
type room struct{ from, to uintptr }

// roomsOf are the pieces of memory that the lists in v have, up to their ends.
func roomsOf(v reflect.Value) []room {
	rooms := []room{}
	switch v.Kind() {
	case reflect.Slice:
		if v.Cap() > 0 {
			rooms = append(rooms, room{v.Pointer(), v.Pointer() + uintptr(v.Cap())*v.Type().Elem().Size()})
		}
		for at := range v.Len() {
			rooms = append(rooms, roomsOf(v.Index(at))...)
		}
	case reflect.Struct:
		for at := range v.NumField() {
			rooms = append(rooms, roomsOf(v.Field(at))...)
		}
	}
	return rooms
}

// checkOwnRooms asks whether all lists of an answer have memory of their own,
// and none of an argument's.
func checkOwnRooms(t *testing.T, name string, answer any, args ...any) {
	t.Helper()
	own := roomsOf(reflect.ValueOf(answer))
	others := []room{}
	for _, arg := range args {
		others = append(others, roomsOf(reflect.ValueOf(arg))...)
	}
	for at, r := range own {
		for _, other := range append(slices.Clone(others), own[at+1:]...) {
			if r.from < other.to && other.from < r.to {
				t.Fatalf("%s: memory is shared", name)
			}
		}
	}
}

// withRooms is a copy of which all lists have marks behind them.
func withRooms[T any](x T) T {
	v := reflect.New(reflect.TypeOf(x)).Elem()
	v.Set(reflect.ValueOf(x))
	addRooms(v)
	return v.Interface().(T)
}

func addRooms(v reflect.Value) {
	switch v.Kind() {
	case reflect.Slice:
		count := v.Len()
		made := reflect.MakeSlice(v.Type(), count+3, count+3)
		reflect.Copy(made, v)
		for at := range count {
			addRooms(made.Index(at))
		}
		for at := count; at < count+3; at++ {
			addMark(made.Index(at))
		}
		v.Set(made.Slice(0, count))
	case reflect.Struct:
		for at := range v.NumField() {
			addRooms(v.Field(at))
		}
	}
}

func addMark(v reflect.Value) {
	switch v.Kind() {
	case reflect.Int:
		v.SetInt(91)
	case reflect.Uint8:
		v.SetUint(91)
	case reflect.Struct:
		for at := range v.NumField() {
			addMark(v.Field(at))
		}
	}
}

// wholeText shows all that the lists in x have, up to their ends.
func wholeText(x any) string {
	var text strings.Builder
	var show func(v reflect.Value)
	show = func(v reflect.Value) {
		switch v.Kind() {
		case reflect.Slice:
			fmt.Fprintf(&text, "[%d:", v.Len())
			for at := range v.Cap() {
				show(v.Slice(0, v.Cap()).Index(at))
			}
			text.WriteString("]")
		case reflect.Struct:
			for at := range v.NumField() {
				show(v.Field(at))
			}
		default:
			fmt.Fprint(&text, " ", v.Interface())
		}
	}
	show(reflect.ValueOf(x))
	return text.String()
}

// checkLeftAlone holds that an answer shares no memory, that the arguments stay
// as they are, with all that stands behind their lists, and that the same
// arguments give the same answer.
func checkLeftAlone[T any](t *testing.T, name string, call func() T, args ...any) {
	t.Helper()
	before := wholeText(args)
	first := call()
	checkOwnRooms(t, name, first, args...)
	if wholeText(args) != before {
		t.Fatalf("%s: an argument has changed", name)
	}
	if second := call(); fmt.Sprint(second) != fmt.Sprint(first) {
		t.Fatalf("%s: once %v, once %v", name, first, second)
	}
}

func TestLoopListsAreLeftAlone(t *testing.T) {
	source := rand.New(rand.NewSource(174))
	nests := slices.Concat(someNests(150, 175), []impl.Nest{{}, plainNest(), {Sizes: ints(-1)}})
	for _, g := range slices.Concat(edgeGraphs()[5:], someGraphs(120, 176), slopeGraphs()) {
		g = withRooms(g)
		checkLeftAlone(t, "Lower", func() impl.Nest { l, _ := impl.Lower(g); return l }, g)
		if l, ok := impl.Lower(g); ok {
			nests = append(nests, l)
		}
	}
	for _, l := range nests {
		l = withRooms(l)
		ins := [][]int{}
		if impl.NestOk(l) {
			ins = withRooms(insFor(source, l))
		}
		checkLeftAlone(t, "NestOk", func() bool { return impl.NestOk(l) }, l)
		checkLeftAlone(t, "RunNest", func() [][]int { return impl.RunNest(l, ins) }, l, ins)
		checkLeftAlone(t, "Fuse", func() impl.Nest { return impl.Fuse(l) }, l)
		for _, k := range l.Kernels {
			order := withRooms(source.Perm(len(k.Loops)))
			checkLeftAlone(t, "Reorder", func() impl.Kernel { made, _ := impl.Reorder(k, order); return made }, k, order)
			for axis, length := range k.Loops {
				checkLeftAlone(t, "Tile", func() impl.Kernel { made, _ := impl.Tile(k, axis, length); return made }, k)
			}
		}
	}
}

func TestRoomBehindLoopListsIsNotRead(t *testing.T) {
	l := plainNest()
	l.Sizes, l.Ins, l.Outs = l.Sizes[:2], nil, ints(0, 2)[:1]
	l.Kernels = l.Kernels[:0]
	if !impl.NestOk(l) || !sameLists(impl.RunNest(l, nil), [][]int{noughts(6)}) || len(impl.Fuse(l).Kernels) != 0 {
		t.Error("what lies behind a list was read")
	}
	k := kernelIn("for 2 3: 0@0(3 1) -> 1@0(3 1): load 0")
	k.Store.Steps = ints(3, 1)[:1]
	if _, ok := impl.Tile(k, 0, 1); ok {
		t.Error("Tile has read behind Steps")
	}
	if _, ok := impl.Reorder(k, ints(1, 0)); ok {
		t.Error("Reorder has read behind Steps")
	}
	short := kernelIn("for 2: 0@0(3) -> 1@0(3): load 0")
	if _, ok := impl.Reorder(short, ints(0, 1)[:1]); !ok {
		t.Error("Reorder has read behind the order")
	}
	if got := impl.RunNest(nestIn("sizes 2\nin 0\nout 0"), [][]int{ints(1, 2, 3)[:2], {5}}[:1]); !sameLists(got, [][]int{{1, 2}}) {
		t.Errorf("RunNest has read behind ins: %v", got)
	}
	g := graphOf(ints(1, 7)[:1], inputNode(2), argsNode(impl.OpNeg, 0), argsNode(impl.OpTop, 0))
	g.Nodes = g.Nodes[:2]
	if made, ok := impl.Lower(g); !ok || len(made.Sizes) != 2 || len(made.Outs) != 1 {
		t.Error("Lower has read behind a list")
	}
}

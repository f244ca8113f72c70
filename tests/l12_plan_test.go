package tests

import (
	"fmt"
	"math"
	"math/rand"
	"regexp"
	"slices"
	"strings"
	"testing"

	"loop.example/g00033/impl"
)

// livesIn reads lives: the buffer, its size, and from when up to when it is
// alive.
//
//	3:10@0-5 4:2@1-1
func livesIn(text string) []impl.Life {
	lives := []impl.Life{}
	for _, found := range regexp.MustCompile(`(-?\d+):(-?\d+)@(-?\d+)-(-?\d+)`).FindAllStringSubmatch(text, -1) {
		list := intsIn(strings.Join(found[1:], " "))
		lives = append(lives, impl.Life{Buffer: list[0], Size: list[1], From: list[2], To: list[3]})
	}
	return lives
}

func livesText(lives []impl.Life) string {
	words := []string{}
	for _, life := range lives {
		words = append(words, fmt.Sprintf("%d:%d@%d-%d", life.Buffer, life.Size, life.From, life.To))
	}
	return strings.Join(words, " ")
}

func TestLivesTexts(t *testing.T) {
	text := "0:4@0-1 -3:-4@-5--6 1:9223372036854775807@2-3"
	lives := livesIn(text)
	if livesText(lives) != text || lives[1] != (impl.Life{Buffer: -3, Size: -4, From: -5, To: -6}) || len(livesIn("")) != 0 {
		t.Errorf("read back: %s", livesText(lives))
	}
}

func planText(p impl.Plan) string {
	return fmt.Sprintf("%soffsets %s\narena %d\n", nestText(p.Nest), intsText(p.Offsets), p.Arena)
}

func samePlan(a impl.Plan, b impl.Plan) bool { return planText(a) == planText(b) }

func copiedPlan(p impl.Plan) impl.Plan {
	return impl.Plan{Nest: copiedNest(p.Nest), Offsets: slices.Clone(p.Offsets), Arena: p.Arena}
}

func isGiven(l impl.Nest, b int) bool {
	return slices.Contains(l.Ins, b) || slices.ContainsFunc(l.Fixed, func(f impl.Fix) bool { return f.Buffer == b })
}

// wantLives says what the document says of Lives.
func wantLives(l impl.Nest) []impl.Life {
	lives := []impl.Life{}
	if !wantNestOk(l) {
		return lives
	}
	for b, size := range l.Sizes {
		touching := []int{}
		for number, k := range l.Kernels {
			if k.Store.Buffer == b || slices.ContainsFunc(k.Loads, func(load impl.Access) bool { return load.Buffer == b }) {
				touching = append(touching, number)
			}
		}
		isOut := slices.Contains(l.Outs, b)
		if size == 0 || !isGiven(l, b) && !isOut && len(touching) == 0 {
			continue
		}
		life := impl.Life{Buffer: b, Size: size}
		if !isGiven(l, b) && len(touching) > 0 {
			life.From = touching[0]
		}
		if isOut {
			life.To = len(l.Kernels)
		} else if len(touching) > 0 {
			life.To = touching[len(touching)-1]
		}
		lives = append(lives, life)
	}
	return lives
}

func checkLives(t *testing.T, l impl.Nest) []impl.Life {
	t.Helper()
	got, want := impl.Lives(l), wantLives(l)
	if !slices.Equal(got, want) {
		t.Fatalf("Lives of\n%sis %s, not %s", nestText(l), livesText(got), livesText(want))
	}
	return got
}

func wantFit(lives []impl.Life) bool {
	for _, life := range lives {
		sizeFits := 1 <= life.Size && life.Size <= 4096
		if !sizeFits || life.From < 0 || life.From > life.To || life.To > 400 {
			return false
		}
	}
	return len(lives) <= 200
}

// sameTime asks whether some number is in both lives.
func sameTime(a impl.Life, b impl.Life) bool { return max(a.From, b.From) <= min(a.To, b.To) }

// wantOrder gives the places of the lives as they are placed, found by asking
// again and again for the first.
func wantOrder(lives []impl.Life) []int {
	left, order := firstNumbers(len(lives)), []int{}
	for len(left) > 0 {
		best := 0
		for i, at := range left {
			life, first := lives[at], lives[left[best]]
			if life.Size > first.Size || life.Size == first.Size && life.From < first.From {
				best = i
			}
		}
		order = append(order, left[best])
		left = slices.Delete(left, best, best+1)
	}
	return order
}

// wantPack says what the document says of Pack: each place is marked that is
// taken, and then they are counted.
func wantPack(lives []impl.Life) ([]int, int) {
	if !wantFit(lives) {
		return nil, 0
	}
	all := 0
	for _, life := range lives {
		all += life.Size
	}
	offsets, peak, order := noughts(len(lives)), 0, wantOrder(lives)
	for done, at := range order {
		taken := make([]bool, all)
		for _, other := range order[:done] {
			for place := range lives[other].Size {
				if sameTime(lives[at], lives[other]) {
					taken[offsets[other]+place] = true
				}
			}
		}
		free := 0
		for place := 0; free < lives[at].Size; place++ {
			free++
			if taken[place] {
				free = 0
			}
			offsets[at] = place + 1 - free
		}
		peak = max(peak, offsets[at]+lives[at].Size)
	}
	return offsets, peak
}

// wantPackOk says what the document says of PackOk.
func wantPackOk(lives []impl.Life, offsets []int) bool {
	if len(lives) != len(offsets) || !wantFit(lives) {
		return false
	}
	for i, offset := range offsets {
		if offset < 0 || offset > 1000000 {
			return false
		}
		for j := range i {
			first, end := max(offset, offsets[j]), min(offset+lives[i].Size, offsets[j]+lives[j].Size)
			if sameTime(lives[i], lives[j]) && first < end {
				return false
			}
		}
	}
	return true
}

// wantFloor says what the document says of Floor, number by number.
func wantFloor(lives []impl.Life) int {
	most := 0
	for number := 0; number <= 400 && wantFit(lives); number++ {
		sum := 0
		for _, life := range lives {
			if life.From <= number && number <= life.To {
				sum += life.Size
			}
		}
		most = max(most, sum)
	}
	return most
}

// checkPack holds Pack, PackOk and Floor against the words, and two parts of P31:
// lives that meet do not overlap, and the peak is not below Floor.
func checkPack(t *testing.T, lives []impl.Life) ([]int, int) {
	t.Helper()
	offsets, peak := impl.Pack(lives)
	want, most := wantPack(lives)
	if !slices.Equal(offsets, want) || peak != most {
		t.Fatalf("Pack of %s is %v with the peak %d, not %v with %d", livesText(lives), offsets, peak, want, most)
	}
	if floor := impl.Floor(lives); floor != wantFloor(lives) || peak < floor {
		t.Fatalf("Floor of %s is %d, not %d; the peak is %d", livesText(lives), floor, wantFloor(lives), peak)
	}
	if ok := checkPackOk(t, lives, offsets); ok != wantFit(lives) && len(lives) > 0 {
		t.Fatalf("PackOk of %s at %v is %v", livesText(lives), offsets, ok)
	}
	for i, life := range lives {
		for j := range min(i, len(offsets)) {
			if sameTime(life, lives[j]) && offsets[i] < offsets[j]+lives[j].Size && offsets[j] < offsets[i]+life.Size {
				t.Fatalf("Pack of %s has lives %d and %d at one place: %v", livesText(lives), i, j, offsets)
			}
		}
	}
	return offsets, peak
}

func checkPackOk(t *testing.T, lives []impl.Life, offsets []int) bool {
	t.Helper()
	ok := impl.PackOk(lives, offsets)
	if ok != wantPackOk(lives, offsets) {
		t.Fatalf("PackOk of %s at %v is %v", livesText(lives), offsets, ok)
	}
	return ok
}

// wantPlan says what the document says of MakePlan.
func wantPlan(l impl.Nest) (impl.Plan, bool) {
	if !wantNestOk(l) {
		return impl.Plan{}, false
	}
	lives := wantLives(l)
	offsets, peak := wantPack(lives)
	p := impl.Plan{Nest: l, Offsets: slices.Repeat(ints(-1), len(l.Sizes)), Arena: peak}
	for at, life := range lives {
		p.Offsets[life.Buffer] = offsets[at]
	}
	return p, true
}

// wantPlanOk says what the document says of PlanOk.
func wantPlanOk(p impl.Plan) bool {
	if !wantNestOk(p.Nest) || len(p.Offsets) != len(p.Nest.Sizes) || p.Arena < 0 || p.Arena > 1000000 {
		return false
	}
	lives, offsets := wantLives(p.Nest), []int{}
	for b, offset := range p.Offsets {
		life := slices.IndexFunc(lives, func(life impl.Life) bool { return life.Buffer == b })
		if (life < 0) != (offset == -1) {
			return false
		}
		if life < 0 {
			continue
		}
		offsets = append(offsets, offset)
		if offset < 0 || offset > 1000000 || offset+lives[life].Size > p.Arena {
			return false
		}
	}
	return wantPackOk(lives, offsets)
}

func checkPlanOk(t *testing.T, p impl.Plan) bool {
	t.Helper()
	ok := impl.PlanOk(p)
	if ok != wantPlanOk(p) {
		t.Fatalf("PlanOk is %v of\n%s", ok, planText(p))
	}
	return ok
}

func insFit(l impl.Nest, ins [][]int) bool {
	if len(ins) != len(l.Ins) {
		return false
	}
	for at, numbers := range ins {
		if len(numbers) != l.Sizes[l.Ins[at]] || slices.ContainsFunc(numbers, func(x int) bool { return x < 0 || x > 2147483646 }) {
			return false
		}
	}
	return true
}

// wantRunPlan says what the document says of RunPlan, place by place; nil for
// nothing.
func wantRunPlan(p impl.Plan, ins [][]int) [][]int {
	if !wantPlanOk(p) || !insFit(p.Nest, ins) {
		return nil
	}
	l, arena := p.Nest, slices.Repeat(ints(7), p.Arena)
	put := func(b int, numbers []int) {
		for at, x := range numbers {
			arena[p.Offsets[b]+at] = x
		}
	}
	for at, b := range l.Ins {
		put(b, ins[at])
	}
	for _, f := range l.Fixed {
		put(f.Buffer, f.Data)
	}
	for number := 0; number == 0 || number < len(l.Kernels); number++ {
		for _, life := range wantLives(l) {
			if life.From == number && !isGiven(l, life.Buffer) {
				put(life.Buffer, noughts(life.Size))
			}
		}
		if number < len(l.Kernels) {
			wantKernelRun(p, l.Kernels[number], arena)
		}
	}
	outs := [][]int{}
	for _, b := range l.Outs {
		numbers := []int{}
		for at := range l.Sizes[b] {
			numbers = append(numbers, arena[p.Offsets[b]+at])
		}
		outs = append(outs, numbers)
	}
	return outs
}

// wantKernelRun lets a kernel run on what is in the arena.
func wantKernelRun(p impl.Plan, k impl.Kernel, arena []int) {
	from := [][]int{}
	for _, load := range k.Loads {
		from = append(from, placesOf(load, k.Loops))
	}
	for number, to := range placesOf(k.Store, k.Loops) {
		loaded := []int{}
		for at, load := range k.Loads {
			loaded = append(loaded, arena[p.Offsets[load.Buffer]+from[at][number]])
		}
		x := wantReckoned(k.Code, loaded)[len(k.Code)-1]
		place := p.Offsets[k.Store.Buffer] + to
		if k.Sum {
			x = moduloPrime(x + arena[place])
		}
		arena[place] = x
	}
}

// checkRunPlan holds RunPlan against the words, and the first part of P31: a plan
// gives what its nest gives.
func checkRunPlan(t *testing.T, p impl.Plan, ins [][]int) [][]int {
	t.Helper()
	got, want := impl.RunPlan(p, ins), wantRunPlan(p, ins)
	if !sameLists(got, want) {
		t.Fatalf("RunPlan of\n%sat %v is %v, not %v", planText(p), ins, got, want)
	}
	if nest := impl.RunNest(p.Nest, ins); wantPlanOk(p) && !sameLists(got, nest) {
		t.Fatalf("RunPlan of\n%sat %v is %v, RunNest %v", planText(p), ins, got, nest)
	}
	return got
}

// checkPlan holds MakePlan against the words, and all of P31 at the nest.
func checkPlan(t *testing.T, source *rand.Rand, l impl.Nest) (impl.Plan, bool) {
	t.Helper()
	p, ok := impl.MakePlan(l)
	want, there := wantPlan(l)
	if ok != there || !samePlan(p, want) {
		t.Fatalf("MakePlan of\n%sis %v\n%snot %v\n%s", nestText(l), ok, planText(p), there, planText(want))
	}
	if !ok {
		return p, false
	}
	lives := checkLives(t, l)
	if _, peak := checkPack(t, lives); p.Arena != peak || p.Arena < impl.Floor(lives) {
		t.Fatalf("the Arena of\n%sis not the peak %d, or below Floor %d", planText(p), peak, impl.Floor(lives))
	}
	if !checkPlanOk(t, p) {
		t.Fatalf("what was made is not PlanOk:\n%s", planText(p))
	}
	checkRunPlan(t, p, insFor(source, l))
	return p, true
}

func TestPlanLimits(t *testing.T) {
	if impl.MaxArena != 1000000 {
		t.Error("the limit of chapter 12")
	}
}

// withIdle is a nest that has further buffers: of size 0, given or not, and such
// as no kernel touches; the numbers of all buffers are mixed.
func withIdle(source *rand.Rand, l impl.Nest) impl.Nest {
	l = copiedNest(l)
	for range source.Intn(6) {
		b, size := len(l.Sizes), max(0, source.Intn(6)-1)
		l.Sizes = append(l.Sizes, size)
		switch source.Intn(4) {
		case 0:
			l.Ins = append(l.Ins, b)
		case 1:
			l.Fixed = append(l.Fixed, impl.Fix{Buffer: b, Data: slices.Repeat(ints(b), size)})
		}
		if source.Intn(3) == 0 {
			l.Outs = append(l.Outs, b)
		}
	}
	return renumbered(l, source.Perm(len(l.Sizes)))
}

// renumbered is the nest with the number become[b] for each buffer b.
func renumbered(l impl.Nest, become []int) impl.Nest {
	sizes := noughts(len(l.Sizes))
	for b, size := range l.Sizes {
		sizes[become[b]] = size
	}
	l.Sizes = sizes
	for _, list := range [][]int{l.Ins, l.Outs} {
		for at, b := range list {
			list[at] = become[b]
		}
	}
	for at := range l.Fixed {
		l.Fixed[at].Buffer = become[l.Fixed[at].Buffer]
	}
	for _, k := range l.Kernels {
		for at := range k.Loads {
			k.Loads[at].Buffer = become[k.Loads[at].Buffer]
		}
	}
	for at := range l.Kernels {
		l.Kernels[at].Store.Buffer = become[l.Kernels[at].Store.Buffer]
	}
	return l
}

func idleNests(count int, seed int64) []impl.Nest {
	source := rand.New(rand.NewSource(seed))
	nests := []impl.Nest{}
	for _, l := range someNests(count, seed+1) {
		nests = append(nests, withIdle(source, l))
	}
	return nests
}

// otherPlan is another plan of the nest that is PlanOk: the buffers lie where
// chance has it, and the Arena may be greater than is needed.
func otherPlan(source *rand.Rand, p impl.Plan) impl.Plan {
	p = copiedPlan(p)
	lives := wantLives(p.Nest)
	placed, end := []impl.Life{}, 0
	for _, at := range source.Perm(len(lives)) {
		life := lives[at]
		p.Offsets[life.Buffer] = end
		for range 20 {
			offset := source.Intn(end + 3)
			meets := func(other impl.Life) bool {
				return sameTime(life, other) && offset < p.Offsets[other.Buffer]+other.Size && p.Offsets[other.Buffer] < offset+life.Size
			}
			if !slices.ContainsFunc(placed, meets) {
				p.Offsets[life.Buffer] = offset
				break
			}
		}
		placed = append(placed, life)
		end = max(end, p.Offsets[life.Buffer]+life.Size)
	}
	p.Arena = end + source.Intn(3)*source.Intn(20)
	return p
}

// P31, at nests of all kinds, and with buffers that lie anywhere.
func TestPlansGiveWhatNestsGive(t *testing.T) {
	source := rand.New(rand.NewSource(181))
	reused, summed, above := 0, 0, 0
	for _, l := range slices.Concat(someNests(1500, 182), idleNests(1500, 183)) {
		p, ok := checkPlan(t, source, l)
		if !ok {
			t.Fatalf("no plan of\n%s", nestText(l))
		}
		lives := impl.Lives(l)
		all := 0
		for _, life := range lives {
			all += life.Size
			if life.From > 0 && slices.ContainsFunc(l.Kernels, func(k impl.Kernel) bool { return k.Sum && k.Store.Buffer == life.Buffer }) {
				summed++
			}
		}
		if p.Arena < all {
			reused++
		}
		if p.Arena > impl.Floor(lives) {
			above++
		}
		for range 3 {
			other := otherPlan(source, p)
			if !checkPlanOk(t, other) {
				t.Fatalf("refused:\n%s", planText(other))
			}
			checkRunPlan(t, other, insFor(source, l))
		}
	}
	if reused < 1000 || summed < 500 || above < 30 {
		t.Errorf("%d plans use a place twice, %d buffers are summed up in later on, %d Arenas are above Floor", reused, summed, above)
	}
}

// P31, at nests that Lower made, and at these fused, cut and reordered.
func TestPlansOfLoweredGraphs(t *testing.T) {
	source := rand.New(rand.NewSource(184))
	count, fused, changed := 0, 0, 0
	for _, g := range slices.Concat(goodGraphs(), slopeGraphs(), someGraphs(150, 185), gradGraphs(20, 186)) {
		l, ok := impl.Lower(g)
		if !ok || len(g.Nodes) > 60 {
			continue
		}
		nests := []impl.Nest{l, impl.Fuse(l)}
		for _, made := range nests[:2] {
			cut := copiedNest(made)
			for at, k := range cut.Kernels {
				if k.Sum || !meetsTwice(k) {
					times := 0
					cut.Kernels[at], times = mixed(t, source, k)
					changed += times
				}
			}
			nests = append(nests, cut)
		}
		inputs := inputsFor(source, g)
		outs := dataOf(impl.Eval(g, inputs))
		for _, made := range nests {
			p, ok := checkPlan(t, source, made)
			if got := checkRunPlan(t, p, dataOf(inputs)); !ok || !sameLists(got, outs) {
				t.Fatalf("planned,\n%sgives %v, not %v:\n%s", wantText(g), got, outs, planText(p))
			}
			checkRunPlan(t, otherPlan(source, p), dataOf(inputs))
		}
		count++
		if len(nests[1].Kernels) < len(l.Kernels) {
			fused++
		}
	}
	if count < 300 || fused < 50 || changed < 1000 {
		t.Errorf("%d graphs, %d fused, %d times cut or reordered", count, fused, changed)
	}
}

func TestLivesRows(t *testing.T) {
	chain := "\nfor 2: 0@0(1) -> 1@0(1): load 0\nfor 2: 1@0(1) -> 2@0(1): load 0\nfor 2: 2@0(1) -> 3@0(1): load 0\n"
	rows := []struct{ nest, want string }{
		{"sizes", ""}, {"sizes 0", ""}, {"sizes 5", ""},
		{"sizes 2 2 2 2\nin 0" + chain + "out 3", "0:2@0-0 1:2@0-1 2:2@1-2 3:2@2-3"},
		// Without kernels.
		{"sizes 4\nin 0", "0:4@0-0"}, {"sizes 4\nfix 0 1 2 3 4", "0:4@0-0"}, {"sizes 4\nout 0", "0:4@0-0"}, {"sizes 4\nin 0\nout 0", "0:4@0-0"}, {"sizes 4 1 2 3\nin 2\nfix 1 9\nout 3 1", "1:1@0-0 2:2@0-0 3:3@0-0"},
		// Size 0: given, one of Outs, both, neither.
		{"sizes 0 1 0 0 0\nin 0\nfix 2\nout 1 4 2", "1:1@0-0"}, {"sizes 0 0\nin 0 1\nout 1 1", ""}, {"sizes 2 2 2 2 0 0\nin 0 4" + chain + "out 3 4 5", "0:2@0-0 1:2@0-1 2:2@1-2 3:2@2-3"},
		// Neither given nor one of Outs nor touched.
		{"sizes 2 2 2 2 9 4096\nin 0" + chain + "out 3", "0:2@0-0 1:2@0-1 2:2@1-2 3:2@2-3"}, {"sizes 2 2 2 2" + chain + "out 3", "0:2@0-0 1:2@0-1 2:2@1-2 3:2@2-3"},
		// Given and never touched.
		{"sizes 2 2 2 2 5 1\nin 4 0\nfix 5 8" + chain + "out 3", "0:2@0-0 1:2@0-1 2:2@1-2 3:2@2-3 4:5@0-0 5:1@0-0"},
		// One of Outs that is never touched, or given.
		{"sizes 2 2 2 2 5\nin 0" + chain + "out 3 4", "0:2@0-0 1:2@0-1 2:2@1-2 3:2@2-3 4:5@0-3"}, {"sizes 2 2 2 2 5 1\nin 4 0\nfix 5 8" + chain + "out 3 4 5 0", "0:2@0-3 1:2@0-1 2:2@1-2 3:2@2-3 4:5@0-3 5:1@0-3"},
		// One of Outs twice; one that is touched early; none.
		{"sizes 2 2 2 2\nin 0" + chain + "out 3 3 1 3 1", "0:2@0-0 1:2@0-3 2:2@1-2 3:2@2-3"}, {"sizes 2 2 2 2\nin 0" + chain, "0:2@0-0 1:2@0-1 2:2@1-2 3:2@2-2"}, {"sizes 2 2 2 2\nin 0" + chain + "out 0 1 2", "0:2@0-3 1:2@0-3 2:2@1-3 3:2@2-2"},
		// Touched by the first and the last alone; given and loaded late; a Fix that is.
		{"sizes 2 2 2 2\nin 0" + chain + "for 2: 1@0(1) -> 0@0(1): load 0\nout 3", ""},
		{"sizes 2 2 2 2" + chain + "for 2: 0@0(1) -> 1@0(1): load 0\nout 3", "0:2@0-3 1:2@0-3 2:2@1-2 3:2@2-4"}, {"sizes 2 2 2 2 1\nin 0 4" + chain + "for 2: 4@0(0) -> 3@0(1): load 0\nout 3", "0:2@0-0 1:2@0-1 2:2@1-2 3:2@2-4 4:1@0-3"}, {"sizes 2 2 2 2 1\nin 0\nfix 4 1" + chain + "for 2: 4@0(0) -> 3@0(1): load 0", "0:2@0-0 1:2@0-1 2:2@1-2 3:2@2-3 4:1@0-3"},
		// Touched by one kernel alone, and not by the first.
		{"sizes 2 2 2 2 3 3\nin 0" + chain + "for 3: 4@0(1) -> 5@0(1): load 0\nout 3", "0:2@0-0 1:2@0-1 2:2@1-2 3:2@2-4 4:3@3-3 5:3@3-3"},
		// Loaded ahead of being stored in; stored in twice; loaded twice by one kernel.
		{"sizes 2 2 2\nfor 2: 0@0(1) -> 1@0(1): load 0\nfor 2: 1@0(1) -> 2@0(1): load 0\nfor 2: 2@0(1) -> 0@0(1): load 0", "0:2@0-2 1:2@0-1 2:2@1-2"}, {"sizes 2 2\nin 0\nfor 2: 0@0(1) -> 1@0(1): load 0\nfor 2: -> 1@0(1): const 5\nfor 2: 0@0(1) 0@1(-1) -> 1@0(1): load 0", "0:2@0-2 1:2@0-2"},
		// A Load that Code does not name is one.
		{"sizes 2 2 2\nin 0\nfor 2: 0@0(1) -> 1@0(1): load 0\nfor 2: 0@0(1) 1@0(1) -> 2@0(1): const 5\nout 2", "0:2@0-1 1:2@0-1 2:2@1-2"},
		// A kernel without loops, and of one number.
		{"sizes 1 1\nfor: -> 1@0(): const 5\nfor: 1@0() +> 0@0(): load 0\nout 0", "0:1@1-2 1:1@0-1"},
	}
	for _, row := range rows {
		if got := checkLives(t, nestIn(row.nest)); livesText(got) != row.want {
			t.Errorf("Lives of\n%s\nis %q, not %q", row.nest, livesText(got), row.want)
		}
	}
}

func TestLivesAtLimits(t *testing.T) {
	many := nestIn("sizes 1 4096\nout 1 0")
	for range 400 {
		many.Kernels = append(many.Kernels, kernelIn("for: 0@0() +> 1@4095(): load 0"))
	}
	if got := livesText(checkLives(t, many)); got != "0:1@0-400 1:4096@0-400" {
		t.Errorf("of 400 kernels: %s", got)
	}
	late := copiedNest(many)
	late.Sizes = append(late.Sizes, 7)
	late.Outs = ints(2)
	late.Kernels[399].Store = impl.Access{Buffer: 2, Offset: 6, Steps: ints()}
	if got := livesText(checkLives(t, late)); got != "0:1@0-399 1:4096@0-398 2:7@399-400" {
		t.Errorf("with a late one: %s", got)
	}
	many.Kernels = append(many.Kernels, many.Kernels[0])
	if got := checkLives(t, many); len(got) > 0 {
		t.Errorf("of 401 kernels: %s", livesText(got))
	}
	wide := impl.Nest{Sizes: slices.Repeat(ints(4096), 200), Outs: firstNumbers(40)}
	if got := checkLives(t, wide); len(got) != 40 || got[39] != (impl.Life{Buffer: 39, Size: 4096}) {
		t.Errorf("of 200 buffers: %s", livesText(got))
	}
	wide.Sizes = append(wide.Sizes, 1)
	if got := checkLives(t, wide); len(got) > 0 {
		t.Errorf("of 201 buffers: %s", livesText(got))
	}
}

// wrongNests are near to plainNest, and not NestOk.
func wrongNests() []impl.Nest {
	nests := []impl.Nest{{Sizes: ints(-1)}, {Sizes: ints(4097)}, {Sizes: noughts(201)}, {Ins: ints(0)}, {Outs: ints(0)}, {Kernels: []impl.Kernel{{}}}, {Fixed: []impl.Fix{{}}}}
	changes := []func(l *impl.Nest){
		func(l *impl.Nest) { l.Outs = ints(2, 5) }, func(l *impl.Nest) { l.Outs = ints(-1) }, func(l *impl.Nest) { l.Ins = ints(0, 0) }, func(l *impl.Nest) { l.Ins = ints(1) }, func(l *impl.Nest) { l.Fixed[0].Data[0] = -1 }, func(l *impl.Nest) { l.Fixed[0].Data = ints(1) },
		func(l *impl.Nest) { l.Kernels[0].Store.Buffer = 0 }, func(l *impl.Nest) { l.Kernels[0].Store.Buffer = 99 }, func(l *impl.Nest) { l.Kernels[0].Store.Buffer = -1 }, func(l *impl.Nest) { l.Kernels[0].Loads[0].Buffer = 5 }, func(l *impl.Nest) { l.Kernels[0].Loads[1].Buffer = -1 },
		func(l *impl.Nest) { l.Kernels[0].Code = nil }, func(l *impl.Nest) { l.Kernels[0].Loops[0] = math.MaxInt }, func(l *impl.Nest) { l.Kernels[0].Loads[0].Offset = 1 }, func(l *impl.Nest) { l.Kernels = slices.Repeat(l.Kernels, 401) },
	}
	for _, change := range changes {
		l := plainNest()
		change(&l)
		nests = append(nests, l)
	}
	return nests
}

// Nothing comes of what is not NestOk, whichever function is asked.
func TestPlansOfWrongNests(t *testing.T) {
	source := rand.New(rand.NewSource(187))
	checkWrong := func(l impl.Nest) {
		t.Helper()
		if got := checkLives(t, l); len(got) > 0 {
			t.Fatalf("Lives of\n%sis %s", nestText(l), livesText(got))
		}
		p, ok := checkPlan(t, source, l)
		if ok || !samePlan(p, impl.Plan{}) {
			t.Fatalf("MakePlan of\n%sis\n%s", nestText(l), planText(p))
		}
		for _, offsets := range [][]int{nil, noughts(len(l.Sizes)), slices.Repeat(ints(-1), len(l.Sizes)), ints(0, 6, 12, -1, -1)} {
			p := impl.Plan{Nest: l, Offsets: offsets, Arena: 4096}
			if checkPlanOk(t, p) || len(checkRunPlan(t, p, [][]int{noughts(6)})) > 0 || len(checkRunPlan(t, p, nil)) > 0 {
				t.Fatalf("something comes of\n%s", planText(p))
			}
		}
	}
	for _, l := range wrongNests() {
		checkWrong(l)
	}
	wrong := 0
	for _, l := range idleNests(300, 188) {
		for range 6 {
			spoilt := spoiltNest(source, l)
			if wantNestOk(spoilt) {
				checkPlan(t, source, spoilt)
				continue
			}
			wrong++
			checkWrong(spoilt)
		}
	}
	if wrong < 600 {
		t.Errorf("%d are wrong", wrong)
	}
}

// A packRow has lives, their offsets, the peak and the Floor; -1 for the peak
// where they are not as Pack wants them.
type packRow struct {
	lives   string
	offsets []int
	peak    int
	floor   int
}

func checkPackRows(t *testing.T, rows []packRow) {
	t.Helper()
	for _, row := range rows {
		lives := livesIn(row.lives)
		offsets, peak := checkPack(t, lives)
		if !slices.Equal(offsets, row.offsets) || peak != max(row.peak, 0) || impl.Floor(lives) != row.floor {
			t.Errorf("Pack of %s is %v with the peak %d and the Floor %d", row.lives, offsets, peak, impl.Floor(lives))
		}
		if checkPackOk(t, lives, offsets) != (row.peak >= 0) {
			t.Errorf("PackOk of %s at %v is %v", row.lives, offsets, row.peak < 0)
		}
	}
}

func TestPackRows(t *testing.T) {
	checkPackRows(t, []packRow{
		{"", nil, 0, 0}, {"0:1@0-0", ints(0), 1, 1}, {"0:4096@400-400", ints(0), 4096, 4096},
		{"0:4@0-1 1:4@1-2 2:4@2-3", ints(0, 4, 0), 8, 8},
		// The greatest first, wherever it stands.
		{"0:1@0-9 1:2@0-9 2:3@0-9", ints(5, 3, 0), 6, 6}, {"0:2@0-9 1:3@0-9 2:1@0-9", ints(3, 0, 5), 6, 6}, {"0:1@0-9 1:5@9-9", ints(5, 0), 6, 6},
		// Of one Size, the lesser From first; of one From too, as they stand, whatever To and Buffer are.
		{"0:2@3-9 1:2@2-9 2:2@1-9 3:2@0-9", ints(6, 4, 2, 0), 8, 8}, {"0:2@2-9 1:2@0-9 2:2@1-9", ints(4, 0, 2), 6, 6}, {"0:2@1-9 1:2@1-5 2:2@1-1", ints(0, 2, 4), 6, 6}, {"9:2@1-1 5:2@1-5 2:2@1-9", ints(0, 2, 4), 6, 6}, {"0:2@0-3 1:2@2-5 2:2@0-5 3:2@2-3", ints(0, 4, 2, 6), 8, 8},
		{"0:1@5-9 1:2@6-9 2:1@4-9 3:2@5-9", ints(5, 2, 4, 0), 6, 6},
		// Lives that just meet, and just do not.
		{"0:3@0-4 1:3@4-8", ints(0, 3), 6, 6}, {"0:3@0-4 1:3@5-8", ints(0, 0), 3, 3}, {"0:3@4-8 1:3@0-4", ints(3, 0), 6, 6}, {"0:3@5-8 1:3@0-4", ints(0, 0), 3, 3}, {"0:3@0-8 1:2@4-4", ints(0, 3), 5, 5}, {"0:3@4-4 1:2@0-8", ints(0, 3), 5, 5}, {"0:3@4-4 1:3@4-4", ints(0, 3), 6, 6}, {"0:3@4-4 1:2@3-3 2:1@5-5", ints(0, 0, 0), 3, 3},
		// A gap that is just great enough, and one that is too small: what is at 0 is not there any more.
		{"0:4@0-1 1:4@1-3 2:4@2-3", ints(0, 4, 0), 8, 8}, {"0:4@0-1 1:5@1-3 2:4@2-3", ints(5, 0, 5), 9, 9}, {"0:5@0-1 1:5@1-3 2:4@2-3", ints(0, 5, 0), 10, 10}, {"0:5@0-1 1:5@1-3 2:3@2-3 3:2@2-3 4:1@2-3", ints(0, 5, 0, 3, 10), 11, 11},
		{"0:6@0-0 1:5@0-2 2:4@0-2 3:6@2-2", ints(0, 6, 11, 0), 15, 15}, {"0:6@0-0 1:5@0-2 2:4@0-2 3:3@1-2 4:3@1-2 5:1@1-2", ints(0, 6, 11, 0, 3, 15), 16, 16}, {"0:6@0-0 1:5@0-2 2:4@0-2 3:3@1-2 4:4@1-2", ints(0, 6, 11, 15, 0), 18, 16},
		// A gap between two, at neither end.
		{"0:9@0-3 1:8@0-1 2:7@0-3 3:6@2-3 4:2@2-3", ints(0, 9, 17, 9, 15), 24, 24}, {"0:9@0-3 1:8@0-1 2:7@0-3 3:6@2-3 4:3@2-3", ints(0, 9, 17, 9, 24), 27, 25},
		// Those that are taken meet the one that comes, not one another.
		{"0:4@0-0 1:3@2-2 2:2@0-2", ints(0, 0, 4), 6, 6}, {"0:3@0-0 1:4@2-2 2:2@0-2", ints(0, 0, 4), 6, 6},
		// One that meets none.
		{"0:4@0-1 1:4@1-2 2:1@7-7", ints(0, 4, 0), 8, 8},
		// Where the most is alive: at the first number, in the midst, at the last.
		{"0:4@0-0 1:2@0-5 2:1@5-5", ints(0, 4, 0), 6, 6}, {"0:1@0-2 1:4@2-3 2:2@2-2 3:1@3-9", ints(6, 0, 4, 4), 7, 7}, {"0:1@0-399 1:2@3-400 2:8@400-400", ints(0, 8, 0), 10, 10}, {"0:3@0-5 1:3@5-9 2:3@9-12", ints(0, 3, 0), 6, 6},
		// Buffers are any ints, and may be the same.
		{"7:2@0-0 7:2@0-0 -1:2@0-0 9223372036854775807:2@0-0 -9223372036854775808:2@0-0", ints(0, 2, 4, 6, 8), 10, 10},
	})
}

func TestPackOfWrongLives(t *testing.T) {
	rows := []packRow{}
	for _, wrong := range []string{
		"0:0@0-0", "0:-1@0-0", "0:4097@0-0", "0:1@-1-0", "0:1@1-0", "0:1@400-399", "0:1@0-401", "0:1@401-401", "0:1@-1--1", "0:0@0--1",
		"0:9223372036854775807@0-0", "0:-9223372036854775808@0-0", "0:1@0-9223372036854775807", "0:1@-9223372036854775808-0", "0:1@9223372036854775807-9223372036854775807", "0:1@0--9223372036854775808",
	} {
		rows = append(rows, packRow{wrong, nil, -1, 0}, packRow{wrong + " 1:1@0-0", nil, -1, 0}, packRow{"1:1@0-0 " + wrong, nil, -1, 0}, packRow{"1:1@0-0 " + wrong + " 1:1@0-0", nil, -1, 0})
	}
	checkPackRows(t, rows)
	checkPackRows(t, []packRow{{"0:1@0-400", ints(0), 1, 1}, {"0:1@400-400 1:1@0-0", ints(0, 0), 1, 1}, {"0:4096@0-0 1:1@0-400 2:1@400-400", ints(0, 4096, 0), 4097, 4097}})
	for _, row := range rows {
		lives := livesIn(row.lives)
		apart := []int{}
		for at := range lives {
			apart = append(apart, at*10000)
		}
		if checkPackOk(t, lives, apart) || checkPackOk(t, lives, noughts(len(lives))) {
			t.Errorf("%s is PackOk", row.lives)
		}
	}
}

func TestPackAtLimits(t *testing.T) {
	many := func(count int, size int) []impl.Life {
		return slices.Repeat([]impl.Life{{Buffer: 1, Size: size, From: 0, To: 400}}, count)
	}
	for _, size := range ints(1, 4095, 4096) {
		offsets, peak := checkPack(t, many(200, size))
		if peak != 200*size || impl.Floor(many(200, size)) != 200*size || offsets[199] != 199*size {
			t.Errorf("200 lives of %d: peak %d", size, peak)
		}
		if offsets, peak := checkPack(t, many(201, size)); len(offsets) > 0 || peak != 0 || impl.Floor(many(201, size)) != 0 {
			t.Errorf("201 lives of %d: peak %d", size, peak)
		}
	}
	apart := []int{}
	for at := range 201 {
		apart = append(apart, at*10)
	}
	if !checkPackOk(t, many(200, 10), apart[:200]) || checkPackOk(t, many(201, 10), apart) || checkPackOk(t, many(200, 11), apart[:200]) {
		t.Error("PackOk of 200 and 201 lives")
	}
	// As many as there can be, of all sizes and times.
	source := rand.New(rand.NewSource(189))
	above := 0
	for range 4 {
		lives := []impl.Life{}
		for at := range 200 {
			from := source.Intn(401)
			lives = append(lives, impl.Life{Buffer: at, Size: 1 + source.Intn(4096), From: from, To: min(400, from+source.Intn(120))})
		}
		if _, peak := checkPack(t, lives); peak > impl.Floor(lives) {
			above++
		}
	}
	if above == 0 {
		t.Error("no peak is above Floor")
	}
}

func randomLives(source *rand.Rand) []impl.Life {
	lives := []impl.Life{}
	most := 1 + source.Intn(12)
	for range source.Intn(14) {
		from := source.Intn(8)
		lives = append(lives, impl.Life{Buffer: source.Intn(20) - 5, Size: 1 + source.Intn(most), From: from, To: from + source.Intn(5)})
	}
	return lives
}

// Two parts of P31 at all kinds of lives: those that meet do not overlap, and the
// peak is not below Floor.
func TestPackOfRandomLives(t *testing.T) {
	source := rand.New(rand.NewSource(190))
	just, above := 0, 0
	for range 6000 {
		lives := randomLives(source)
		if _, peak := checkPack(t, lives); peak > impl.Floor(lives) {
			above++
		} else {
			just++
		}
	}
	if just < 1000 || above < 300 {
		t.Errorf("%d peaks are the Floor, %d are above", just, above)
	}
}

func TestPackOkOfRandomOffsets(t *testing.T) {
	source := rand.New(rand.NewSource(191))
	good, wrong := 0, 0
	for range 6000 {
		lives := randomLives(source)
		offsets, peak := impl.Pack(lives)
		for range 1 + source.Intn(3) {
			if len(offsets) > 0 {
				offsets[source.Intn(len(offsets))] = source.Intn(peak+4) - source.Intn(20)/19
			}
		}
		if checkPackOk(t, lives, offsets) {
			good++
		} else {
			wrong++
		}
	}
	if good < 1000 || wrong < 1000 {
		t.Errorf("%d are taken, %d refused", good, wrong)
	}
}

func TestPackOkRows(t *testing.T) {
	three := "0:4@0-1 1:4@1-2 2:4@2-3"
	great := math.MaxInt
	rows := []struct {
		lives   string
		offsets []int
		want    bool
	}{
		{"", nil, true}, {"", ints(), true}, {"", ints(0), false}, {"0:1@0-0", nil, false},
		{three, ints(0, 4, 0), true}, {three, ints(4, 0, 4), true}, {three, ints(0, 3, 0), false}, {three, ints(0, 5, 0), true}, {three, ints(0, 4, 1), false}, {three, ints(8, 4, 0), true}, {three, ints(0, 4, 8), true}, {three, ints(0, 0, 4), false}, {three, ints(4, 0, 0), false}, {three, ints(4, 0, 3), false}, {three, ints(3, 0, 4), false},
		// Fewer and more.
		{three, ints(0, 4), false}, {three, ints(0, 4, 0, 0), false}, {three, ints(0, 4, 0, 100), false}, {three, nil, false},
		// Below 0, and past MaxArena.
		{three, ints(-1, 4, 0), false}, {three, ints(0, 4, -1), false}, {three, ints(0, -4, 0), false}, {three, ints(0, 1000000, 0), true}, {three, ints(0, 1000001, 0), false}, {three, ints(1000000, 0, 1000000), true}, {three, ints(1000001, 0, 0), false}, {three, ints(0, 999996, 1000000), true}, {three, ints(0, 999997, 1000000), false}, {"0:4096@0-0", ints(1000000), true}, {"0:1@0-0", ints(1000001), false},
		// Sums that would pass an int.
		{three, ints(0, great, 0), false}, {three, ints(great, 0, great), false}, {three, ints(0, great-3, 0), false}, {three, ints(0, math.MinInt, 0), false}, {three, ints(math.MinInt, great, math.MinInt), false}, {"0:4@0-0 1:4@0-0", ints(great, great-4), false}, {"0:9223372036854775807@0-0 1:9223372036854775807@0-0", ints(0, 1), false}, {"0:9223372036854775807@0-0", ints(1), false},
		// Touching, not overlapping; one in the other; the same.
		{"0:4@0-9 1:4@0-9", ints(0, 4), true}, {"0:4@0-9 1:4@0-9", ints(4, 0), true}, {"0:4@0-9 1:4@0-9", ints(3, 0), false}, {"0:4@0-9 1:4@0-9", ints(0, 3), false}, {"0:4@0-9 1:2@0-9", ints(0, 1), false}, {"0:2@0-9 1:4@0-9", ints(1, 0), false}, {"0:4@0-9 1:4@0-9", ints(5, 5), false}, {"0:1@0-9 1:1@0-9", ints(5, 5), false}, {"0:1@0-9 1:1@0-9", ints(5, 6), true},
		// The same Buffer, too, may not lie where it lies.
		{"3:1@0-0 3:1@0-0", ints(0, 0), false}, {"3:1@0-0 3:1@1-1", ints(0, 0), true},
		// Overlapping, not meeting; just meeting; one life within the other.
		{"0:4@0-3 1:4@4-9", ints(0, 0), true}, {"0:4@4-9 1:4@0-3", ints(0, 2), true}, {"0:4@0-4 1:4@4-9", ints(0, 0), false}, {"0:4@4-9 1:4@0-4", ints(0, 0), false}, {"0:4@0-9 1:4@3-4", ints(0, 2), false}, {"0:4@3-4 1:4@0-9", ints(0, 2), false}, {"0:4@3-3 1:4@3-3", ints(0, 3), false},
		// Two that stand far from each other in the list.
		{"0:4@0-9 1:4@0-9 2:4@0-9 3:4@0-9", ints(0, 4, 8, 1), false}, {"0:4@0-9 1:4@0-9 2:4@0-9 3:4@0-9", ints(0, 4, 8, 12), true}, {"0:4@0-9 1:4@0-9 2:4@0-9 3:4@0-9", ints(12, 8, 4, 0), true}, {"0:4@0-9 1:4@0-9 2:4@0-9 3:4@0-9", ints(12, 8, 9, 0), false},
	}
	for _, row := range rows {
		if got := checkPackOk(t, livesIn(row.lives), row.offsets); got != row.want {
			t.Errorf("PackOk of %s at %v is %v", row.lives, row.offsets, got)
		}
	}
}

func TestMakePlanRows(t *testing.T) {
	source := rand.New(rand.NewSource(192))
	chain := "\nfor 4: 0@0(1) -> 1@0(1): load 0\nfor 4: 1@0(1) -> 2@0(1): load 0\nfor 4: 2@0(1) -> 3@0(1): load 0\n"
	rows := []struct {
		nest    string
		offsets []int
		arena   int
	}{
		{"sizes", nil, 0}, {"sizes 0", ints(-1), 0}, {"sizes 5", ints(-1), 0}, {"sizes 5 0 7\nin 1\nout 1", ints(-1, -1, -1), 0}, {"sizes 5\nin 0", ints(0), 5}, {"sizes 5\nout 0 0", ints(0), 5},
		{"sizes 4 4 4 4\nin 0" + chain + "out 3", ints(0, 4, 0, 4), 8},
		// All lie apart where all are wanted at the end.
		{"sizes 4 4 4 4\nin 0" + chain + "out 0 1 2 3", ints(0, 4, 8, 12), 16},
		// Buffers that are never alive, in the midst.
		{"sizes 4 4 4 4 9 0\nin 0 5" + chain + "out 3 5", ints(0, 4, 0, 4, -1, -1), 8}, {"sizes 9 0 1 2\nin 2\nout 3", ints(-1, -1, 2, 0), 3},
		// Given ones that nothing touches are out of the way behind the first kernel.
		{"sizes 4 4 4 4 6\nin 0\nfix 4 1 2 3 4 5 6" + chain + "out 3", ints(6, 10, 0, 4, 0), 14},
		// The greatest stands at 0, though it is stored in last.
		{"sizes 1 2 8\nin 0\nfor 2: 0@0(0) -> 1@0(1): load 0\nfor 2 4: 1@0(1 0) -> 2@0(4 1): load 0\nout 2", ints(0, 8, 0), 10},
	}
	for _, row := range rows {
		p, ok := checkPlan(t, source, nestIn(row.nest))
		if !ok || !slices.Equal(p.Offsets, row.offsets) || p.Arena != row.arena || !sameNest(p.Nest, nestIn(row.nest)) {
			t.Errorf("MakePlan of\n%s\nis %v\n%s", row.nest, ok, planText(p))
		}
	}
}

func TestMakePlanAtLimits(t *testing.T) {
	source := rand.New(rand.NewSource(193))
	// All buffers that there can be, all of the greatest size and alive at once.
	full := impl.Nest{Sizes: slices.Repeat(ints(4096), 200), Ins: firstNumbers(40), Outs: ints(199, 0, 40, 39)}
	for b := 40; b < 200; b++ {
		full.Fixed = append(full.Fixed, impl.Fix{Buffer: b, Data: slices.Repeat(ints(b), 4096)})
	}
	p, ok := checkPlan(t, source, full)
	if !ok || p.Arena != 819200 || p.Offsets[199] != 199*4096 {
		t.Errorf("200 buffers of 4096 are planned with the Arena %d", p.Arena)
	}
	p.Offsets[7], p.Arena = 1000000-4096, 1000000
	if got := checkRunPlan(t, p, insFor(source, full)); !checkPlanOk(t, p) || len(got) != 4 {
		t.Error("an Arena of MaxArena is refused")
	}
	// All kernels that there can be, in a ring of three buffers, of which the one that is loaded last is still wanted.
	ring := nestIn("sizes 2 2 2\nout 1 2")
	for number := range 400 {
		ring.Kernels = append(ring.Kernels, kernelIn(fmt.Sprintf("for 2: %d@0(1) +> %d@1(-1): load 0, const %d, add 0 1", number%3, (number+1)%3, number)))
	}
	if p, ok := checkPlan(t, source, ring); !ok || p.Arena != 6 {
		t.Errorf("400 kernels are planned with the Arena %d", p.Arena)
	}
	// A long chain needs no more than two of its links.
	long := impl.Nest{Sizes: slices.Repeat(ints(16), 200), Ins: ints(0), Outs: ints(199)}
	for b := range 199 {
		long.Kernels = append(long.Kernels, kernelIn(fmt.Sprintf("for 16: %d@0(1) -> %d@15(-1): load 0, neg 0", b, b+1)))
	}
	if p, ok := checkPlan(t, source, long); !ok || p.Arena != 32 {
		t.Errorf("a chain is planned with the Arena %d", p.Arena)
	}
}

// planBase is a plan in which each kind of buffer is: given (0 and 1), stored in
// (2, 3 and 4), never alive (5 and 6), one of Outs that nothing touches (7).
func planBase() impl.Plan {
	nest := nestIn(`sizes 4 2 4 4 2 3 0 1
		in 0 6
		fix 1 8 9
		for 4: 0@0(1) -> 2@0(1): load 0
		for 2: 1@0(1) 2@0(2) -> 4@0(1): load 0, load 1, mul 0 1
		for 4: 2@0(1) +> 3@3(-1): load 0
		out 3 4 7 6`)
	return impl.Plan{Nest: nest, Offsets: ints(0, 8, 4, 0, 10, -1, -1, 12), Arena: 13}
}

// A planChange changes planBase; ok says whether it is PlanOk then.
type planChange struct {
	name   string
	ok     bool
	change func(p *impl.Plan)
}

func checkPlanChanges(t *testing.T, changes []planChange) {
	t.Helper()
	source := rand.New(rand.NewSource(194))
	ins := insFor(source, planBase().Nest)
	for _, c := range changes {
		p := planBase()
		c.change(&p)
		if checkPlanOk(t, p) != c.ok {
			t.Errorf("%s: PlanOk is %v", c.name, !c.ok)
		}
		if got := checkRunPlan(t, p, ins); (len(got) > 0) != c.ok {
			t.Errorf("%s: RunPlan is %v", c.name, got)
		}
	}
}

func TestPlanOkRows(t *testing.T) {
	if p, ok := impl.MakePlan(planBase().Nest); !ok || p.Arena != 13 || !samePlan(p, planBase()) {
		t.Errorf("the plan is\n%s", planText(p))
	}
	offset := func(b int, x int) func(p *impl.Plan) { return func(p *impl.Plan) { p.Offsets[b] = x } }
	arena := func(x int) func(p *impl.Plan) { return func(p *impl.Plan) { p.Arena = x } }
	both := func(first func(p *impl.Plan), second func(p *impl.Plan)) func(p *impl.Plan) {
		return func(p *impl.Plan) { first(p); second(p) }
	}
	far := arena(1000000)
	changes := []planChange{
		{"nothing", true, func(*impl.Plan) {}},
		{"fewer Offsets", false, func(p *impl.Plan) { p.Offsets = p.Offsets[:7] }}, {"more Offsets", false, func(p *impl.Plan) { p.Offsets = append(p.Offsets, -1) }}, {"more Offsets, with a place", false, func(p *impl.Plan) { p.Offsets = append(p.Offsets, 0) }}, {"no Offsets", false, func(p *impl.Plan) { p.Offsets = nil }},
		// -1 just for those that are never alive.
		{"-1 for a given one", false, offset(0, -1)}, {"-1 for a Fix", false, offset(1, -1)}, {"-1 for one that is stored in", false, offset(2, -1)}, {"-1 for the last of Outs", false, offset(7, -1)}, {"-1 for all", false, func(p *impl.Plan) { p.Offsets = slices.Repeat(ints(-1), 8) }},
		{"-2 for one that is alive", false, offset(2, -2)}, {"0 for one that is never alive", false, offset(5, 0)}, {"0 for one of size 0", false, offset(6, 0)}, {"-2 for one that is never alive", false, offset(5, -2)}, {"-2 for one of size 0", false, offset(6, -2)}, {"a free place for one that is never alive", false, both(offset(5, 20), far)}, {"the end for one of size 0", false, offset(6, 13)},
		// Where they lie.
		{"all apart", true, func(p *impl.Plan) { p.Offsets, p.Arena = ints(0, 4, 6, 10, 14, -1, -1, 16), 17 }}, {"turned round", true, func(p *impl.Plan) { p.Offsets = ints(9, 3, 5, 9, 1, -1, -1, 0) }}, {"0 and 2 overlap", false, offset(2, 3)}, {"2 and 3 overlap", false, offset(3, 7)}, {"0 and 3 overlap in part", true, func(p *impl.Plan) { p.Offsets, p.Arena = ints(1, 10, 5, 0, 12, -1, -1, 14), 15 }}, {"7 lies in 0", false, offset(7, 3)}, {"7 lies in 3", false, both(offset(3, 20), both(offset(7, 21), far))}, {"4 lies where 1 is", false, offset(4, 8)}, {"4 lies where 0 was", false, offset(4, 0)}, {"1 lies on 0", false, offset(1, 0)},
		// The Arena.
		{"one less", false, arena(12)}, {"one more", true, arena(14)}, {"none", false, arena(0)}, {"below 0", false, arena(-1)}, {"far below 0", false, arena(math.MinInt)}, {"MaxArena", true, far}, {"MaxArena and one more", false, arena(1000001)}, {"far above", false, arena(math.MaxInt)},
		{"at the end", true, both(offset(7, 999999), far)}, {"one past the end", false, both(offset(7, 1000000), far)}, {"an offset past MaxArena", false, both(offset(7, 1000001), far)}, {"a great one at the end", true, both(offset(3, 999996), far)}, {"a great one past the end", false, both(offset(3, 999997), far)}, {"a great one past MaxArena", false, both(offset(3, 1000000), arena(1000004))},
		{"an offset so great that a sum passes an int", false, offset(7, math.MaxInt)}, {"such a one of a greater buffer", false, both(offset(3, math.MaxInt-2), far)}, {"far below 0", false, offset(3, math.MinInt)},
		// Another nest.
		{"a nest that is not NestOk", false, func(p *impl.Plan) { p.Nest.Kernels[0].Code = nil }}, {"no nest", false, func(p *impl.Plan) { p.Nest = impl.Nest{} }}, {"one buffer more", false, func(p *impl.Plan) { p.Nest.Sizes = append(p.Nest.Sizes, 0) }}, {"one more that is planned", true, func(p *impl.Plan) { p.Nest.Sizes, p.Offsets = append(p.Nest.Sizes, 4096), append(p.Offsets, -1) }},
		{"a buffer grown into another", false, func(p *impl.Plan) { p.Nest.Sizes[4] = 3 }}, {"a buffer grown past the end", false, func(p *impl.Plan) { p.Nest.Sizes[7] = 2 }}, {"a buffer of size 0 grown", false, func(p *impl.Plan) { p.Nest.Sizes[6] = 1 }}, {"0 wanted at the end", false, func(p *impl.Plan) { p.Nest.Outs = append(p.Nest.Outs, 0) }}, {"5 wanted at the end", false, func(p *impl.Plan) { p.Nest.Outs = append(p.Nest.Outs, 5) }}, {"2 wanted at the end", true, func(p *impl.Plan) { p.Nest.Outs = append(p.Nest.Outs, 2) }},
		{"7 not wanted, so never alive", false, func(p *impl.Plan) { p.Nest.Outs = ints(3, 4) }}, {"7 not wanted, and so told", true, func(p *impl.Plan) { p.Nest.Outs, p.Offsets[7] = ints(3, 4), -1 }},
	}
	for _, x := range wrongInts() {
		for b := range 8 {
			isNever := b == 5 || b == 6
			changes = append(changes, planChange{fmt.Sprintf("%d for %d", x, b), isNever && x == -1 || !isNever && x == 4097, both(offset(b, x), arena(5000))})
		}
	}
	checkPlanChanges(t, changes)
	if !checkPlanOk(t, impl.Plan{}) || !checkPlanOk(t, impl.Plan{Arena: 1000000}) || checkPlanOk(t, impl.Plan{Arena: -1}) || checkPlanOk(t, impl.Plan{Offsets: ints(-1)}) || checkPlanOk(t, impl.Plan{Arena: 1000001}) {
		t.Error("PlanOk of plans of nothing")
	}
}

func TestPlanOkOfSpoiltPlans(t *testing.T) {
	source := rand.New(rand.NewSource(195))
	good, wrong := 0, 0
	for _, l := range idleNests(600, 196) {
		p, _ := impl.MakePlan(l)
		for range 8 {
			spoilt := otherPlan(source, p)
			if source.Intn(2) == 0 {
				spoilt = copiedPlan(p)
			}
			switch kind := source.Intn(6); {
			case kind == 0:
				spoilt.Arena += source.Intn(5) - 2
			case kind == 1:
				spoilt.Nest = spoiltNest(source, l)
			default:
				spoilt.Offsets[source.Intn(len(spoilt.Offsets))] = source.Intn(spoilt.Arena+3) - source.Intn(2)
			}
			if !checkPlanOk(t, spoilt) {
				wrong++
				ins := [][]int{}
				if wantNestOk(spoilt.Nest) {
					ins = insFor(source, spoilt.Nest)
				}
				if got := checkRunPlan(t, spoilt, ins); len(got) > 0 {
					t.Fatalf("RunPlan gives %v of\n%s", got, planText(spoilt))
				}
				continue
			}
			good++
			checkRunPlan(t, spoilt, insFor(source, spoilt.Nest))
		}
	}
	if good < 1000 || wrong < 1000 {
		t.Errorf("%d are taken, %d refused", good, wrong)
	}
}

func TestRunPlanRows(t *testing.T) {
	source := rand.New(rand.NewSource(197))
	rows := []struct {
		nest string
		ins  [][]int
		want [][]int
	}{
		// Without kernels; an Out that is given, that nothing stores in, of size 0, twice.
		{"sizes", nil, nil}, {"sizes 2", nil, nil}, {"sizes 2\nout 0", nil, [][]int{{0, 0}}}, {"sizes 2\nout 0 0", nil, [][]int{{0, 0}, {0, 0}}}, {"sizes 2 0\nin 0\nout 1 0 1 0", [][]int{{5, 6}}, [][]int{{}, {5, 6}, {}, {5, 6}}},
		{"sizes 2 3\nin 1 0\nout 0 1", [][]int{{1, 2, 3}, {4, 5}}, [][]int{{4, 5}, {1, 2, 3}}}, {"sizes 2 3\nfix 1 7 8 9\nout 1 0", nil, [][]int{{7, 8, 9}, {0, 0}}}, {"sizes 0\nin 0\nout 0", [][]int{{}}, [][]int{{}}}, {"sizes 0\nin 0\nout 0", [][]int{nil}, [][]int{{}}}, {"sizes 0\nfix 0\nout 0 0", nil, [][]int{{}, {}}}, {"sizes 0 1\nout 0 1", nil, [][]int{{}, {0}}},
		// A nest without Outs.
		{"sizes 2 2\nin 0\nfor 2: 0@0(1) -> 1@0(1): load 0", [][]int{{5, 6}}, nil},
		// A kernel with Sum whose buffer lies where another one was, where an In was, and where nothing was.
		{"sizes 2 2 2 2\nin 0\nfor 2: 0@0(1) -> 1@0(1): load 0\nfor 2: 1@0(1) -> 2@0(1): load 0\nfor 2: 2@0(1) +> 3@0(1): load 0\nout 3", [][]int{{5, 6}}, [][]int{{5, 6}}}, {"sizes 2 2 2\nin 0\nfor 2: 0@0(1) -> 1@0(1): load 0\nfor 2: 1@0(1) +> 2@0(1): load 0\nout 2", [][]int{{5, 6}}, [][]int{{5, 6}}}, {"sizes 2 2\nin 0\nfor 2: 0@0(1) +> 1@0(1): load 0\nout 1", [][]int{{5, 6}}, [][]int{{5, 6}}},
		// Places that no kernel stores in are 0, there too.
		{"sizes 4 1 4\nin 0\nfor 4: 0@0(1) -> 1@0(0): load 0\nfor: 1@0() -> 2@2(): load 0\nout 2", [][]int{{5, 6, 7, 8}}, [][]int{{0, 0, 8, 0}}}, {"sizes 1 4\nin 0\nfor: 0@0() -> 1@1(): load 0\nout 1", [][]int{{5}}, [][]int{{0, 5, 0, 0}}},
		// Loaded ahead of being stored in: all 0 then, in the first kernel and later on.
		{"sizes 2 2\nfor 2: 0@0(1) -> 1@0(1): load 0, const 3, add 0 1\nout 1 0", nil, [][]int{{3, 3}, {0, 0}}}, {"sizes 4 4 2 2\nin 0\nfor 4: 0@0(1) -> 1@0(1): load 0\nfor 2: 2@0(1) -> 3@0(1): load 0, const 3, add 0 1\nfor 2: 3@0(1) -> 2@0(1): load 0\nout 2", [][]int{{5, 6, 7, 8}}, [][]int{{3, 3}}},
		// An Out that nothing touches is alive from 0 on, and is not written over.
		{"sizes 2 2 2 2\nin 0\nfor 2: 0@0(1) -> 1@0(1): load 0\nfor 2: 1@0(1) -> 2@0(1): load 0\nout 3 2 3", [][]int{{5, 6}}, [][]int{{0, 0}, {5, 6}, {0, 0}}}, {"sizes 2 2 2 2\nin 0 3\nfor 2: 0@0(1) -> 1@0(1): load 0\nfor 2: 1@0(1) -> 2@0(1): load 0\nout 3 2 0", [][]int{{5, 6}, {8, 9}}, [][]int{{8, 9}, {5, 6}, {5, 6}}},
		// What a kernel adds up stays between kernels; a buffer is made 0 once alone.
		{"sizes 2 2\nin 0\nfor 2: 0@0(1) +> 1@0(1): load 0\nfor 2: 0@0(1) +> 1@0(1): load 0\nfor 2: 0@0(1) +> 1@0(1): load 0\nout 1", [][]int{{5, impl.Prime - 1}}, [][]int{{15, impl.Prime - 3}}}, {"sizes 2 2 2\nin 0\nfor 2: 0@0(1) +> 1@0(1): load 0\nfor 2: 0@0(1) +> 2@0(1): load 0\nfor 2: 2@0(1) +> 1@0(1): load 0\nout 1", [][]int{{5, 6}}, [][]int{{10, 12}}},
		// A given one that is wanted late is still there.
		{"sizes 2 2 2 2\nin 0\nfix 3 1 2\nfor 2: 0@0(1) -> 1@0(1): load 0\nfor 2: 1@0(1) -> 2@0(1): load 0, neg 0\nfor 2: 3@0(1) 0@0(1) +> 2@0(1): load 0, load 1, mul 0 1\nout 2", [][]int{{5, 6}}, [][]int{{0, 6}}},
	}
	for _, row := range rows {
		p, ok := checkPlan(t, source, nestIn(row.nest))
		if got := checkRunPlan(t, p, row.ins); !ok || !sameLists(got, row.want) {
			t.Errorf("RunPlan of\n%sat %v is %v, not %v", planText(p), row.ins, got, row.want)
		}
		for range 5 {
			other := otherPlan(source, p)
			if got := checkRunPlan(t, other, row.ins); !sameLists(got, row.want) {
				t.Errorf("RunPlan of\n%sat %v is %v, not %v", planText(other), row.ins, got, row.want)
			}
		}
	}
}

// Buffers that MakePlan would lay elsewhere: with room between them, behind each
// other, and with a greater Arena.
func TestRunPlanOfOtherOffsets(t *testing.T) {
	nest := nestIn("sizes 2 2 2\nin 0\nfor 2: 0@0(1) -> 1@0(1): load 0, neg 0\nfor 2: 1@0(1) +> 2@0(1): load 0, neg 0\nout 2")
	for _, row := range []struct {
		offsets []int
		arena   int
		ok      bool
	}{
		{ints(0, 2, 0), 4, true}, {ints(2, 0, 2), 4, true}, {ints(0, 2, 4), 6, true}, {ints(4, 2, 0), 6, true}, {ints(1, 3, 0), 5, true}, {ints(1, 3, 1), 999, true}, {ints(999998, 0, 999998), 1000000, true}, {ints(0, 5, 9), 11, true}, {ints(0, 5, 9), 10, false}, {ints(0, 1, 0), 4, false}, {ints(0, 2, 1), 4, false}, {ints(0, 2, 3), 5, false}, {ints(0, 0, 0), 4, false},
	} {
		p := impl.Plan{Nest: nest, Offsets: row.offsets, Arena: row.arena}
		want := [][]int{{5, 6}}
		if !row.ok {
			want = nil
		}
		if got := checkRunPlan(t, p, [][]int{{5, 6}}); checkPlanOk(t, p) != row.ok || !sameLists(got, want) {
			t.Errorf("at %v of %d: %v", row.offsets, row.arena, got)
		}
	}
}

func TestRunPlanOfWrongIns(t *testing.T) {
	p, ok := impl.MakePlan(nestIn("sizes 2 3 2 0\nin 1 0 3\nfor 2: 0@0(1) 1@0(1) -> 2@0(1): load 0, load 1, add 0 1\nout 2 3 2"))
	if got := checkRunPlan(t, p, [][]int{{1, 2, 3}, {4, 5}, {}}); !ok || !sameLists(got, [][]int{{5, 7}, {}, {5, 7}}) {
		t.Errorf("RunPlan is %v", got)
	}
	wrong := [][][]int{nil, {{1, 2, 3}}, {{1, 2, 3}, {4, 5}}, {{1, 2, 3}, {4, 5}, {}, {}}, {{4, 5}, {1, 2, 3}, {}}, {{1, 2}, {4, 5}, {}}, {{1, 2, 3, 4}, {4, 5}, {}}, {{1, 2, 3}, {4}, {}}, {{1, 2, 3}, {4, 5, 6}, {}}, {{1, 2, 3}, {4, 5}, {0}}, {nil, {4, 5}, {}}, {{1, 2, 3}, nil, nil}}
	for _, x := range ints(-1, impl.Prime, impl.Prime+1, math.MinInt, math.MaxInt) {
		wrong = append(wrong, [][]int{{x, 2, 3}, {4, 5}, {}}, [][]int{{1, 2, x}, {4, 5}, {}}, [][]int{{1, 2, 3}, {4, x}, {}}, [][]int{{1, 2, 3}, {x, 5}, {}})
	}
	for _, ins := range wrong {
		if got := checkRunPlan(t, p, ins); len(got) > 0 {
			t.Errorf("at %v RunPlan is %v", ins, got)
		}
	}
	edge := [][]int{{0, impl.Prime - 1, 0}, {impl.Prime - 1, impl.Prime - 1}, nil}
	if got := checkRunPlan(t, p, edge); !sameLists(got, [][]int{{impl.Prime - 1, impl.Prime - 2}, {}, {impl.Prime - 1, impl.Prime - 2}}) {
		t.Errorf("at the greatest numbers RunPlan is %v", got)
	}
	if got := impl.RunPlan(impl.Plan{}, [][]int{{}}); len(got) > 0 {
		t.Errorf("of the empty plan comes %v", got)
	}
}

func TestPlanListsAreLeftAlone(t *testing.T) {
	source := rand.New(rand.NewSource(198))
	nests := slices.Concat(idleNests(200, 199), wrongNests(), []impl.Nest{{}, plainNest(), nestIn("sizes 2\nout 0 0 0")})
	for _, g := range someGraphs(60, 200) {
		if l, ok := impl.Lower(g); ok {
			nests = append(nests, l, impl.Fuse(l))
		}
	}
	for _, l := range nests {
		l = withRooms(l)
		checkLeftAlone(t, "Lives", func() []impl.Life { return impl.Lives(l) }, l)
		checkLeftAlone(t, "MakePlan", func() impl.Plan { p, _ := impl.MakePlan(l); return p }, l)
		ins := [][]int{}
		if impl.NestOk(l) {
			ins = withRooms(insFor(source, l))
		}
		p, _ := impl.MakePlan(l)
		for _, plan := range []impl.Plan{withRooms(p), withRooms(impl.Plan{Nest: l, Offsets: noughts(len(l.Sizes)), Arena: 9000})} {
			checkLeftAlone(t, "PlanOk", func() bool { return impl.PlanOk(plan) }, plan)
			checkLeftAlone(t, "RunPlan", func() [][]int { return impl.RunPlan(plan, ins) }, plan, ins)
		}
	}
	wrong := livesIn("0:4@0-1 1:0@1-2")
	for _, lives := range [][]impl.Life{nil, wrong, randomLives(source), randomLives(source), randomLives(source), livesIn("0:1@3-3 1:2@2-3 2:3@1-3 3:4@0-3")} {
		lives = withRooms(lives)
		offsets, _ := impl.Pack(lives)
		offsets = withRooms(offsets)
		checkLeftAlone(t, "Pack", func() []int { made, _ := impl.Pack(lives); return made }, lives)
		checkLeftAlone(t, "PackOk", func() bool { return impl.PackOk(lives, offsets) }, lives, offsets)
		checkLeftAlone(t, "Floor", func() int { return impl.Floor(lives) }, lives)
	}
}

func TestRoomBehindPlanListsIsNotRead(t *testing.T) {
	lives := livesIn("0:4@0-1 1:4@1-2 2:0@0-0")
	if offsets, peak := impl.Pack(lives[:2]); !slices.Equal(offsets, ints(0, 4)) || peak != 8 || impl.Floor(lives[:2]) != 8 {
		t.Errorf("Pack has read behind the lives: %v", offsets)
	}
	if !impl.PackOk(lives[:2], ints(0, 4, -1)[:2]) || impl.PackOk(lives[:2], ints(0, 4)[:1]) || impl.PackOk(lives[:1], ints(0, 4)) {
		t.Error("PackOk has read behind a list")
	}
	p := planBase()
	p.Offsets = append(p.Offsets, 3)[:8]
	if !impl.PlanOk(p) {
		t.Error("PlanOk has read behind Offsets")
	}
	p.Offsets = p.Offsets[:7]
	if impl.PlanOk(p) {
		t.Error("PlanOk has read behind fewer Offsets")
	}
	l := planBase().Nest
	l.Outs, l.Kernels = l.Outs[:1], l.Kernels[:1]
	if got := livesText(impl.Lives(l)); got != "0:4@0-0 1:2@0-0 2:4@0-0 3:4@0-1" {
		t.Errorf("Lives has read behind a list: %s", got)
	}
}

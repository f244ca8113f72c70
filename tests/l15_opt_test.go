package tests

import (
	"fmt"
	"math"
	"math/big"
	"math/rand"
	"slices"
	"testing"

	"loop.example/g00033/impl"
)

const (
	testRate   = 1 << 24
	testGrad   = 1 << 24
	testParam  = 1 << 36
	testFirst  = 1 << 32
	testSecond = 1 << 34
	testLength = 1 << 30
	testFactor = 65536
	testSteps  = 1000000
	testTime   = 10000000
	testParts  = 65536
)

func TestStepLimits(t *testing.T) {
	if impl.MaxRate != testRate || impl.MaxGrad != testGrad || impl.MaxParam != testParam || impl.MaxFactor != testFactor {
		t.Error("the limits of chapter 15")
	}
	if impl.RulePlain != 1 || impl.RuleHeavy != 2 || impl.RuleEven != 3 {
		t.Error("the kinds of chapter 15")
	}
}

// allIn asks whether each is from the least to the most.
func allIn(least int, most int, list ...int) bool {
	return !slices.ContainsFunc(list, func(x int) bool { return x < least || x > most })
}

// around are both ends, one beyond either, one within, and the ends of int.
func around(least int, most int) []int {
	return ints(math.MinInt, least-1, least, least+1, most-1, most, most+1, math.MaxInt)
}

func schedOf(peak int, low int, warm int, total int) impl.Sched {
	return impl.Sched{Peak: peak, Low: low, Warm: warm, Total: total}
}

// wantSchedOk says what the document says of SchedOk.
func wantSchedOk(s impl.Sched) bool {
	return allIn(0, testRate, s.Peak, s.Low) && s.Low <= s.Peak && allIn(0, testSteps, s.Warm, s.Total) && s.Warm <= s.Total
}

func checkSchedOk(t *testing.T, s impl.Sched) bool {
	t.Helper()
	got := impl.SchedOk(s)
	if got != wantSchedOk(s) {
		t.Errorf("SchedOk of %v is %v", s, got)
	}
	return got
}

// edgeScheds are all fours at the edges, most of them wrong.
func edgeScheds() []impl.Sched {
	made := []impl.Sched{}
	for _, peak := range around(0, testRate) {
		for _, low := range around(0, testRate) {
			for _, warm := range around(0, testSteps) {
				for _, total := range around(0, testSteps) {
					made = append(made, schedOf(peak, low, warm, total))
				}
			}
		}
	}
	return made
}

func TestSchedOkAgainstWords(t *testing.T) {
	right := 0
	for _, s := range edgeScheds() {
		if checkSchedOk(t, s) {
			right++
		}
	}
	if right != 100 {
		t.Errorf("%d are SchedOk", right)
	}
}

func TestSchedOkRows(t *testing.T) {
	for _, row := range []struct {
		peak, low, warm, total int
		want                   bool
	}{
		{0, 0, 0, 0, true}, {16777216, 0, 0, 1000000, true}, {16777216, 16777216, 1000000, 1000000, true}, {100, 7, 3, 9, true},
		{-1, -1, 0, 0, false}, {-1, 0, 3, 9, false}, {16777217, 7, 3, 9, false}, {16777217, 16777217, 3, 9, false}, {100, -1, 3, 9, false},
		// Low just Peak, and one more; Warm just Total, and one more.
		{100, 100, 3, 9, true}, {100, 101, 3, 9, false}, {100, 99, 3, 9, true}, {0, 1, 3, 9, false},
		{100, 7, 9, 9, true}, {100, 7, 10, 9, false}, {100, 7, 8, 9, true}, {100, 7, 1, 0, false},
		{100, 7, -1, 9, false}, {100, 7, -1, -1, false}, {100, 7, 0, -1, false}, {100, 7, 3, 1000001, false}, {100, 7, 1000001, 1000001, false}, {100, 7, 1000001, 1000000, false},
		{100, 7, 0, 1000000, true}, {100, 7, 1000000, 1000000, true},
		{math.MaxInt, 7, 3, 9, false}, {100, math.MinInt, 3, 9, false}, {100, 7, math.MinInt, 9, false}, {100, 7, 3, math.MaxInt, false},
	} {
		if s := schedOf(row.peak, row.low, row.warm, row.total); checkSchedOk(t, s) != row.want {
			t.Errorf("SchedOk of %v is not %v", s, row.want)
		}
	}
}

// nearBy is n / d to the nearest whole number, of two as near the even one.
func nearBy(n *big.Int, d *big.Int) *big.Int { return nearestInt(new(big.Rat).SetFrac(n, d)) }

// wantRate says what the document says of Rate.
func wantRate(s impl.Sched, t int) int {
	if !wantSchedOk(s) || t < 0 || t > testTime {
		return 0
	}
	if t < s.Warm {
		return int(nearBy(product(s.Peak, t+1), wide(s.Warm)).Int64())
	}
	if t < s.Total {
		return s.Peak - int(nearBy(product(s.Peak-s.Low, t-s.Warm), wide(s.Total-s.Warm)).Int64())
	}
	return s.Low
}

func checkRate(t *testing.T, s impl.Sched, at int) int {
	t.Helper()
	got := impl.Rate(s, at)
	if want := wantRate(s, at); got != want {
		t.Fatalf("Rate of %v at %d is %d, not %d", s, at, got, want)
	}
	return got
}

// timesFor are those at which a schedule turns, and others, and some that are
// none.
func timesFor(s impl.Sched) []int {
	made := ints(math.MinInt, -1, 0, 1, testSteps-1, testSteps, testSteps+1, testTime-1, testTime, testTime+1, math.MaxInt)
	for _, turn := range ints(s.Warm, s.Total) {
		if turn > 0 && turn < testTime {
			made = append(made, turn/2, turn-2, turn-1, turn, turn+1, turn+2)
		}
	}
	return append(made, s.Warm/2+s.Total/2)
}

func randomSched(source *rand.Rand) impl.Sched {
	peak, total := source.Intn(testRate+1)>>source.Intn(25), source.Intn(testSteps+1)>>source.Intn(20)
	s := schedOf(peak, source.Intn(peak+1), source.Intn(total+1), total)
	switch source.Intn(8) {
	case 0:
		s.Low = s.Peak
	case 1:
		s.Low = 0
	case 2:
		s.Warm = 0
	case 3:
		s.Warm = s.Total
	}
	return s
}

func TestRateAgainstWords(t *testing.T) {
	source := rand.New(rand.NewSource(242))
	for _, s := range edgeScheds() {
		for _, at := range timesFor(s) {
			checkRate(t, s, at)
		}
	}
	for range 2000 {
		s := randomSched(source)
		for _, at := range append(timesFor(s), source.Intn(s.Total+2), source.Intn(testTime+1)) {
			checkRate(t, s, at)
		}
	}
}

func TestRateRows(t *testing.T) {
	for _, row := range []struct{ peak, low, warm, total, at, want int }{
		{100, 20, 4, 8, 0, 25}, {100, 20, 4, 8, 1, 50}, {100, 20, 4, 8, 2, 75}, {100, 20, 4, 8, 3, 100},
		{100, 20, 4, 8, 4, 100}, {100, 20, 4, 8, 5, 80}, {100, 20, 4, 8, 6, 60}, {100, 20, 4, 8, 7, 40}, {100, 20, 4, 8, 8, 20}, {100, 20, 4, 8, 9, 20}, {100, 20, 4, 8, 10000000, 20},
		{100, 20, 4, 8, -1, 0}, {100, 20, 4, 8, 10000001, 0}, {100, 20, 4, 8, math.MinInt, 0}, {100, 20, 4, 8, math.MaxInt, 0},
		// Warm 0, Warm just Total, Total 0, Peak just Low.
		{100, 20, 0, 4, 0, 100}, {100, 20, 0, 4, 1, 80}, {100, 20, 0, 4, 3, 40}, {100, 20, 0, 4, 4, 20},
		{100, 20, 4, 4, 0, 25}, {100, 20, 4, 4, 3, 100}, {100, 20, 4, 4, 4, 20}, {100, 20, 4, 4, 5, 20},
		{100, 20, 0, 0, 0, 20}, {100, 20, 0, 0, 1, 20}, {100, 20, 0, 0, -1, 0}, {100, 20, 0, 0, 10000000, 20},
		{50, 50, 2, 6, 0, 25}, {50, 50, 2, 6, 1, 50}, {50, 50, 2, 6, 2, 50}, {50, 50, 2, 6, 5, 50}, {50, 50, 2, 6, 6, 50},
		{0, 0, 2, 6, 0, 0}, {0, 0, 2, 6, 3, 0}, {0, 0, 0, 0, 0, 0}, {100, 0, 0, 1, 0, 100}, {100, 0, 0, 1, 1, 0}, {100, 0, 1, 1, 0, 100}, {100, 0, 1, 1, 1, 0},
		// Halves: 5 / 2 and 7 / 2 rising, then 5 less 5 / 2, 7 less 7 / 2.
		{5, 0, 2, 4, 0, 2}, {7, 0, 2, 4, 0, 4}, {5, 0, 2, 4, 3, 3}, {7, 0, 2, 4, 3, 3}, {1, 0, 2, 4, 0, 0}, {1, 0, 2, 4, 3, 1}, {3, 0, 2, 4, 0, 2}, {3, 0, 2, 4, 3, 1},
		// What is below and above a half.
		{1, 0, 3, 6, 0, 0}, {1, 0, 3, 6, 1, 1}, {1, 0, 3, 6, 4, 1}, {1, 0, 3, 6, 5, 0},
		// The greatest.
		{16777216, 0, 1000000, 1000000, 0, 17}, {16777216, 0, 1000000, 1000000, 999999, 16777216}, {16777216, 0, 1000000, 1000000, 1000000, 0},
		{16777216, 1, 0, 1000000, 999999, 18}, {16777216, 1, 0, 1000000, 1000000, 1}, {16777216, 16777216, 0, 0, 10000000, 16777216},
		// Not SchedOk.
		{-1, 20, 4, 8, 2, 0}, {16777217, 20, 4, 8, 2, 0}, {100, 101, 4, 8, 2, 0}, {100, -1, 4, 8, 2, 0}, {100, 20, 9, 8, 2, 0}, {100, 20, -1, 8, 2, 0}, {100, 20, 4, 1000001, 2, 0}, {100, 101, 4, 8, 9, 0}, {100, 20, 9, 8, 20, 0},
	} {
		if got := checkRate(t, schedOf(row.peak, row.low, row.warm, row.total), row.at); got != row.want {
			t.Errorf("Rate of %v is %d", row, got)
		}
	}
}

// checkRise holds P37 at some times, which ascend.
func checkRise(t *testing.T, s impl.Sched, times []int) {
	t.Helper()
	for at, now := range times {
		rate := impl.Rate(s, now)
		if rate > s.Peak || rate < 0 || now >= s.Warm && rate < s.Low || now >= s.Total && rate != s.Low {
			t.Fatalf("Rate of %v at %d is %d", s, now, rate)
		}
		if now == s.Warm-1 && rate != s.Peak || now == s.Warm && now < s.Total && rate != s.Peak {
			t.Fatalf("Rate of %v, warmed, is %d at %d", s, rate, now)
		}
		if at == 0 {
			continue
		}
		before := impl.Rate(s, times[at-1])
		if now < s.Warm && rate < before {
			t.Fatalf("Rate of %v falls from %d to %d at %d", s, before, rate, now)
		}
		if times[at-1] >= s.Warm && rate > before {
			t.Fatalf("Rate of %v rises from %d to %d at %d", s, before, rate, now)
		}
	}
}

func TestRateRisesThenFalls(t *testing.T) {
	source := rand.New(rand.NewSource(243))
	for range 1500 {
		s := randomSched(source)
		times := []int{}
		for now := range min(s.Total+3, 300) {
			times = append(times, now)
		}
		for _, now := range timesFor(s) {
			if now >= 0 && now <= testTime {
				times = append(times, now)
			}
		}
		for range 60 {
			times = append(times, source.Intn(s.Total+1))
		}
		slices.Sort(times)
		checkRise(t, s, slices.Compact(times))
	}
	// It does rise and fall, where there is room for it.
	s := schedOf(testRate, 5, 1000, 3000)
	for now := 1; now < 3000; now++ {
		if before, rate := impl.Rate(s, now-1), impl.Rate(s, now); now < 1000 && rate <= before || now > 1000 && rate >= before {
			t.Fatalf("Rate is %d at %d, %d before", rate, now, before)
		}
	}
}

// checkRoot holds that the square of the root is at most n, and that of the
// next is not.
func checkRoot(t *testing.T, n int) int {
	t.Helper()
	got := impl.Root(n)
	if n < 0 || n > impl.MaxWhole {
		if got != 0 {
			t.Fatalf("Root of %d is %d", n, got)
		}
		return got
	}
	if got < 0 || product(got, got).Cmp(wide(n)) > 0 || product(got+1, got+1).Cmp(wide(n)) <= 0 {
		t.Fatalf("Root of %d is %d", n, got)
	}
	return got
}

func TestRootRows(t *testing.T) {
	for _, row := range [][2]int{
		{0, 0}, {1, 1}, {2, 1}, {3, 1}, {4, 2}, {5, 2}, {8, 2}, {9, 3}, {15, 3}, {16, 4}, {24, 4}, {25, 5}, {99, 9}, {100, 10},
		{1 << 50, 1 << 25}, {1<<50 - 1, 1<<25 - 1}, {1 << 60, 1 << 30}, {1<<60 - 1, 1<<30 - 1}, {1 << 61, 1518500249}, {1 << 32, 65536}, {1<<32 - 1, 65535},
		{1 << 62, 1 << 31}, {1<<62 - 1, 1<<31 - 1}, {1<<62 + 1, 0}, {1<<62 - 1<<32, 1<<31 - 2}, {1<<62 - 1<<32 + 1, 1<<31 - 1},
		{-1, 0}, {-4, 0}, {-1 << 62, 0}, {math.MinInt, 0}, {math.MinInt + 1, 0}, {math.MaxInt, 0}, {math.MaxInt - 1, 0},
	} {
		if got := checkRoot(t, row[0]); got != row[1] {
			t.Errorf("Root of %d is %d, not %d", row[0], got, row[1])
		}
	}
	root := 0
	for n := range 101 {
		if (root+1)*(root+1) == n {
			root++
		}
		if got := checkRoot(t, n); got != root {
			t.Errorf("Root of %d is %d", n, got)
		}
	}
}

func TestRootIsExact(t *testing.T) {
	source := rand.New(rand.NewSource(244))
	roots := []int{}
	for root := range 20000 {
		roots = append(roots, root, 1<<31-root)
	}
	for bit := range 32 {
		roots = append(roots, 1<<bit-1, 1<<bit)
		for other := range bit {
			roots = append(roots, 1<<bit+1<<other, 1<<bit-1<<other)
		}
	}
	for range 20000 {
		roots = append(roots, source.Intn(1<<31)>>source.Intn(31))
	}
	for _, root := range roots {
		if root > 1<<31 {
			continue
		}
		for _, n := range ints(root*root-1, root*root, root*root+1, root*root+2*root) {
			checkRoot(t, n)
		}
	}
	for range 20000 {
		checkRoot(t, source.Intn(1<<62)>>source.Intn(62))
	}
	for _, n := range testInts() {
		checkRoot(t, n)
	}
}

func isGradientOf(g []int) bool { return len(g) <= 4096 && allIn(-testGrad, testGrad, g...) }

func squares(g []int) *big.Int {
	sum := new(big.Int)
	for _, x := range g {
		sum.Add(sum, product(x, x))
	}
	return sum
}

// wantNorm says what the document says of Norm.
func wantNorm(g []int) int {
	if !isGradientOf(g) {
		return 0
	}
	return int(new(big.Int).Sqrt(squares(g)).Int64())
}

func checkNorm(t *testing.T, g []int) int {
	t.Helper()
	got := impl.Norm(g)
	if want := wantNorm(g); got != want {
		t.Fatalf("Norm of %d numbers %.200s is %d, not %d", len(g), fmt.Sprint(g), got, want)
	}
	return got
}

// randomGradient has numbers of one size or of several.
func randomGradient(source *rand.Rand, count int) []int {
	by, made := source.Intn(25), make([]int, count)
	for at := range made {
		made[at] = (source.Intn(2*testGrad+1) - testGrad) >> by
		switch source.Intn(10) {
		case 0:
			made[at] >>= source.Intn(25)
		case 1:
			made[at] = 0
		}
	}
	return made
}

func TestNormRows(t *testing.T) {
	for _, row := range []struct {
		g    []int
		want int
	}{
		{ints(), 0}, {nil, 0}, {ints(0), 0}, {ints(1), 1}, {ints(-1), 1}, {ints(7), 7}, {ints(-7), 7}, {ints(3, 4), 5}, {ints(-3, 4), 5}, {ints(3, -4), 5}, {ints(1, 1), 1}, {ints(1, 1, 1, 1), 2}, {ints(2, 3), 3}, {ints(2, 3, 6), 7}, {ints(0, 0, 0), 0},
		{ints(testGrad), testGrad}, {ints(-testGrad), testGrad}, {ints(testGrad, 1), testGrad}, {ints(testGrad, -testGrad), 23726566},
		{ints(testGrad + 1), 0}, {ints(-testGrad - 1), 0}, {ints(testGrad+1, 3, 4), 0}, {ints(3, 4, testGrad+1), 0}, {ints(-testGrad-1, 3, 4), 0}, {ints(3, 4, -testGrad-1), 0}, {ints(3, math.MaxInt, 4), 0}, {ints(3, math.MinInt, 4), 0}, {ints(1<<32, 3), 0},
		{slices.Repeat(ints(testGrad), 4096), 1 << 30}, {slices.Repeat(ints(-testGrad), 4096), 1 << 30}, {slices.Repeat(ints(testGrad), 4097), 0},
		{slices.Repeat(ints(1), 4096), 64}, {slices.Repeat(ints(1), 4097), 0}, {slices.Repeat(ints(1), 4095), 63}, {noughts(4096), 0}, {noughts(4097), 0},
		{append(slices.Repeat(ints(testGrad), 4095), 0), 1<<30 - 131081}, {append(noughts(4095), 5), 5}, {append(noughts(4096), 5), 0},
	} {
		if got := checkNorm(t, row.g); got != row.want {
			t.Errorf("Norm of %d numbers %.200s is %d, not %d", len(row.g), fmt.Sprint(row.g), got, row.want)
		}
	}
}

func TestNormAgainstWords(t *testing.T) {
	source := rand.New(rand.NewSource(245))
	for range 4000 {
		g := randomGradient(source, source.Intn(9))
		checkNorm(t, g)
		if len(g) > 0 {
			checkNorm(t, replaced(g, source.Intn(len(g)), testGrad+1))
			checkNorm(t, replaced(g, source.Intn(len(g)), -testGrad-1))
		}
	}
	for _, count := range ints(100, 1000, 4095, 4096, 4097) {
		checkNorm(t, randomGradient(source, count))
	}
	for _, x := range append(testInts(), around(-testGrad, testGrad)...) {
		checkNorm(t, ints(x))
		checkNorm(t, ints(5, x))
	}
}

// wantClip says what the document says of Clip.
func wantClip(g []int, most int) []int {
	if !isGradientOf(g) || most < 0 || most > testLength {
		return []int{}
	}
	norm, made := wantNorm(g), slices.Clone(g)
	if norm > most {
		for at, x := range g {
			made[at] = int(nearBy(product(x, most), wide(norm)).Int64())
		}
	}
	return made
}

// checkClip holds Clip to the words, and P36: but for rounding it is no longer
// than told. Each number is off by half at most, and Norm by less than 1.
func checkClip(t *testing.T, g []int, most int) []int {
	t.Helper()
	got := impl.Clip(g, most)
	if want := wantClip(g, most); !slices.Equal(got, want) {
		t.Fatalf("Clip of %d numbers %.200s by %d is %.200s, not %.200s", len(g), fmt.Sprint(g), most, fmt.Sprint(got), fmt.Sprint(want))
	}
	if !isGradientOf(g) || most < 0 || most > testLength {
		return got
	}
	if impl.Norm(g) <= most && !slices.Equal(got, g) {
		t.Fatalf("Clip of %.200s by %d, which is long enough, is %.200s", fmt.Sprint(g), most, fmt.Sprint(got))
	}
	if 2*impl.Norm(got) > 2*most+2+impl.Root(len(g)) {
		t.Fatalf("Clip of %.200s by %d is %.200s, which is too long", fmt.Sprint(g), most, fmt.Sprint(got))
	}
	for at, x := range got {
		if x*g[at] < 0 || max(x, -x) > max(g[at], -g[at]) {
			t.Fatalf("Clip of %.200s by %d is %.200s", fmt.Sprint(g), most, fmt.Sprint(got))
		}
	}
	return got
}

func TestClipRows(t *testing.T) {
	full := slices.Repeat(ints(testGrad), 4096)
	for _, row := range []struct {
		g    []int
		most int
		want []int
	}{
		{ints(6, 8), 5, ints(3, 4)}, {ints(-6, 8), 5, ints(-3, 4)}, {ints(6, -8), 5, ints(3, -4)}, {ints(30, 40), 5, ints(3, 4)},
		// Norm just most, and one more; Norm is rounded down.
		{ints(6, 8), 10, ints(6, 8)}, {ints(6, 8), 11, ints(6, 8)}, {ints(6, 8), 9, ints(5, 7)}, {ints(7), 7, ints(7)}, {ints(7), 6, ints(6)}, {ints(-7), 6, ints(-6)}, {ints(1, 1), 1, ints(1, 1)}, {ints(2, 3), 3, ints(2, 3)}, {ints(2, 3), 2, ints(1, 2)},
		// Halves, above 0 and below it: 5 / 2, 7 / 2, 3 / 2, 1 / 2.
		{ints(0, 10), 5, ints(0, 5)}, {ints(6, 6, 7, 3, 3, 5, 6), 7, ints(3, 3, 4, 2, 2, 2, 3)}, {ints(1, 1, 1, 1), 1, ints(0, 0, 0, 0)}, {ints(3, 3, 3, 3), 3, ints(2, 2, 2, 2)}, {ints(5, 5, 5, 5), 5, ints(2, 2, 2, 2)}, {ints(7, 7, 7, 7), 7, ints(4, 4, 4, 4)},
		{ints(-1, -1, -1, -1), 1, ints(0, 0, 0, 0)}, {ints(-3, -3, -3, -3), 3, ints(-2, -2, -2, -2)}, {ints(-5, -5, -5, -5), 5, ints(-2, -2, -2, -2)}, {ints(-7, -7, -7, -7), 7, ints(-4, -4, -4, -4)},
		// most 0, greatest, and out of that.
		{ints(6, 8), 0, ints(0, 0)}, {ints(0, 0), 0, ints(0, 0)}, {ints(1), 0, ints(0)}, {ints(-1), 0, ints(0)}, {ints(6, 8), testLength, ints(6, 8)}, {ints(6, 8), testLength + 1, nil}, {ints(6, 8), -1, nil}, {ints(6, 8), math.MinInt, nil}, {ints(6, 8), math.MaxInt, nil}, {ints(0, 0), -1, nil}, {ints(6, 8), 5 + 1<<32, nil},
		{ints(), 5, nil}, {nil, 0, nil}, {ints(), -1, nil}, {ints(), testLength, nil},
		// No gradient.
		{ints(testGrad+1, 8), 5, nil}, {ints(8, testGrad+1), testLength, nil}, {ints(-testGrad-1, 8), 5, nil}, {ints(8, -testGrad-1), 5, nil}, {ints(8, math.MinInt), 5, nil}, {ints(math.MaxInt, 8), 5, nil}, {noughts(4097), 5, nil}, {noughts(4096), 5, noughts(4096)},
		{ints(testGrad), 5, ints(5)}, {ints(-testGrad), 5, ints(-5)}, {ints(testGrad), testGrad - 1, ints(testGrad - 1)}, {ints(-testGrad), testGrad, ints(-testGrad)},
		{full, testLength, full}, {full, testLength - 1, full}, {full, 64, slices.Repeat(ints(1), 4096)}, {full, testLength / 2, slices.Repeat(ints(testGrad/2), 4096)}, {full, 32, noughts(4096)}, {full, 33, slices.Repeat(ints(1), 4096)}, {full, 96, slices.Repeat(ints(2), 4096)}, {append(slices.Clone(full), 0), 64, nil},
	} {
		if got := checkClip(t, row.g, row.most); !slices.Equal(got, row.want) {
			t.Errorf("Clip of %.200s by %d is %.200s, not %.200s", fmt.Sprint(row.g), row.most, fmt.Sprint(got), fmt.Sprint(row.want))
		}
	}
}

func TestClipAgainstWords(t *testing.T) {
	source := rand.New(rand.NewSource(246))
	bit, not := 0, 0
	for range 4000 {
		g := randomGradient(source, source.Intn(9))
		norm := impl.Norm(g)
		mosts := append(around(0, testLength), norm-1, norm, norm+1, norm/2, source.Intn(norm+2), source.Intn(norm+2), source.Intn(testLength+1)>>source.Intn(31))
		for _, most := range mosts {
			checkClip(t, g, most)
			if norm > most {
				bit++
			} else {
				not++
			}
		}
		if len(g) > 0 {
			checkClip(t, replaced(g, source.Intn(len(g)), testGrad+1), norm/2)
			checkClip(t, replaced(g, source.Intn(len(g)), -testGrad-1), norm/2)
		}
	}
	for _, count := range ints(100, 1000, 4096, 4097) {
		g := randomGradient(source, count)
		for _, most := range ints(0, 1, 50, 1000, impl.Norm(g)-1, impl.Norm(g), testLength) {
			checkClip(t, g, most)
		}
	}
	if bit < 5000 || not < 5000 {
		t.Errorf("%d were clipped, %d not", bit, not)
	}
}

// ruleOf has one Rate for all times.
func ruleOf(kind int, rate int) impl.Rule {
	return impl.Rule{Kind: kind, Sched: schedOf(rate, rate, 0, 0), Low: 1}
}

// optOf has Firsts and Seconds of 0.
func optOf(params ...int) impl.Opt {
	return impl.Opt{Params: params, First: noughts(len(params)), Second: noughts(len(params)), Factor: 1}
}

func copiedOpt(o impl.Opt) impl.Opt {
	o.Params, o.First, o.Second = slices.Clone(o.Params), slices.Clone(o.First), slices.Clone(o.Second)
	return o
}

func sameOpt(a impl.Opt, b impl.Opt) bool {
	return slices.Equal(a.Params, b.Params) && slices.Equal(a.First, b.First) && slices.Equal(a.Second, b.Second) &&
		a.Count == b.Count && a.Factor == b.Factor && a.Good == b.Good
}

func isNoOpt(o impl.Opt) bool { return sameOpt(o, impl.Opt{}) }

// wantRuleOk says what the document says of RuleOk.
func wantRuleOk(r impl.Rule) bool {
	return allIn(1, 3, r.Kind) && wantSchedOk(r.Sched) && allIn(0, testParts, r.Keep, r.Keep2, r.Decay) &&
		allIn(1, testRate, r.Low) && allIn(0, testLength, r.Most) && allIn(0, testSteps, r.Grow)
}

// wantOptOk says what the document says of OptOk.
func wantOptOk(o impl.Opt) bool {
	power := false
	for by := range 17 {
		power = power || o.Factor == 1<<by
	}
	return len(o.Params) <= 4096 && len(o.First) == len(o.Params) && len(o.Second) == len(o.Params) &&
		allIn(-testParam, testParam, o.Params...) && allIn(-testFirst, testFirst, o.First...) && allIn(0, testSecond, o.Second...) &&
		allIn(0, testSteps, o.Count, o.Good) && power
}

func checkRuleOk(t *testing.T, r impl.Rule) bool {
	t.Helper()
	got := impl.RuleOk(r)
	if got != wantRuleOk(r) {
		t.Fatalf("RuleOk of %v is %v", r, got)
	}
	return got
}

func checkOptOk(t *testing.T, o impl.Opt) bool {
	t.Helper()
	got := impl.OptOk(o)
	if got != wantOptOk(o) {
		t.Fatalf("OptOk of %.300s is %v", fmt.Sprint(o), got)
	}
	return got
}

// plainRule is one that can be, with nothing at an end.
func plainRule() impl.Rule {
	return impl.Rule{Kind: impl.RuleHeavy, Sched: schedOf(70000, 300, 4, 9), Keep: 60000, Keep2: 65000, Low: 7, Decay: 900, Most: 5000, Grow: 6}
}

func plainOpt() impl.Opt {
	return impl.Opt{Params: ints(400, -500, 600), First: ints(-10, 20, 30), Second: ints(7, 8, 9), Count: 5, Factor: 4, Good: 3}
}

type ruleChange struct {
	change func(r *impl.Rule)
	ok     bool
}

func ruleChanges() []ruleChange {
	made := []ruleChange{}
	each := func(least int, most int, set func(r *impl.Rule, x int)) {
		for _, x := range append(around(least, most), least-2, most+2) {
			made = append(made, ruleChange{func(r *impl.Rule) { set(r, x) }, x >= least && x <= most})
		}
	}
	each(1, 3, func(r *impl.Rule, x int) { r.Kind = x })
	each(0, 65536, func(r *impl.Rule, x int) { r.Keep = x })
	each(0, 65536, func(r *impl.Rule, x int) { r.Keep2 = x })
	each(0, 65536, func(r *impl.Rule, x int) { r.Decay = x })
	each(1, 16777216, func(r *impl.Rule, x int) { r.Low = x })
	each(0, 1073741824, func(r *impl.Rule, x int) { r.Most = x })
	each(0, 1000000, func(r *impl.Rule, x int) { r.Grow = x })
	for _, s := range edgeScheds() {
		made = append(made, ruleChange{func(r *impl.Rule) { r.Sched = s }, wantSchedOk(s)})
	}
	return made
}

func TestRuleOkOfEachChange(t *testing.T) {
	for _, row := range ruleChanges() {
		for kind := 1; kind <= 3; kind++ {
			r := plainRule()
			r.Kind = kind
			row.change(&r)
			if checkRuleOk(t, r) != row.ok {
				t.Errorf("RuleOk of %v is not %v", r, row.ok)
			}
		}
	}
	least := impl.Rule{Kind: 1, Low: 1}
	most := impl.Rule{Kind: 3, Sched: schedOf(testRate, testRate, testSteps, testSteps), Keep: testParts, Keep2: testParts, Low: testRate, Decay: testParts, Most: testLength, Grow: testSteps}
	if !checkRuleOk(t, least) || !checkRuleOk(t, most) || checkRuleOk(t, impl.Rule{}) || checkRuleOk(t, impl.Rule{Kind: 1}) || checkRuleOk(t, impl.Rule{Low: 1}) {
		t.Error("RuleOk of the least, the greatest or the zero value")
	}
}

type optChange struct {
	change func(o *impl.Opt)
	ok     bool
}

// optChanges are those of an Opt with three Params.
func optChanges() []optChange {
	made := []optChange{}
	each := func(least int, most int, set func(o *impl.Opt, x int)) {
		for _, x := range append(around(least, most), least-2, most+2) {
			made = append(made, optChange{func(o *impl.Opt) { set(o, x) }, x >= least && x <= most})
		}
	}
	for at := range 3 {
		each(-68719476736, 68719476736, func(o *impl.Opt, x int) { o.Params[at] = x })
		each(-4294967296, 4294967296, func(o *impl.Opt, x int) { o.First[at] = x })
		each(0, 17179869184, func(o *impl.Opt, x int) { o.Second[at] = x })
	}
	each(0, 1000000, func(o *impl.Opt, x int) { o.Count = x })
	each(0, 1000000, func(o *impl.Opt, x int) { o.Good = x })
	for _, row := range []struct {
		factor int
		ok     bool
	}{
		{0, false}, {1, true}, {2, true}, {3, false}, {4, true}, {5, false}, {6, false}, {7, false}, {8, true}, {32767, false}, {32768, true}, {32769, false}, {49152, false}, {65535, false}, {65536, true}, {65537, false}, {131072, false},
		{-1, false}, {-2, false}, {-65536, false}, {math.MinInt, false}, {math.MaxInt, false}, {1 << 62, false}, {1 + 1<<32, false}, {1 << 32, false},
	} {
		made = append(made, optChange{func(o *impl.Opt) { o.Factor = row.factor }, row.ok})
	}
	return append(made,
		optChange{func(o *impl.Opt) { o.Params = o.Params[:2] }, false}, optChange{func(o *impl.Opt) { o.Params = nil }, false}, optChange{func(o *impl.Opt) { o.Params = append(o.Params, 1) }, false},
		optChange{func(o *impl.Opt) { o.First = o.First[:2] }, false}, optChange{func(o *impl.Opt) { o.First = nil }, false}, optChange{func(o *impl.Opt) { o.First = append(o.First, 1) }, false},
		optChange{func(o *impl.Opt) { o.Second = o.Second[:2] }, false}, optChange{func(o *impl.Opt) { o.Second = nil }, false}, optChange{func(o *impl.Opt) { o.Second = append(o.Second, 1) }, false},
		optChange{func(o *impl.Opt) { o.First, o.Second = append(o.First, 1), append(o.Second, 1) }, false}, optChange{func(o *impl.Opt) { o.First, o.Second = o.First[:2], append(o.Second, 1) }, false},
		optChange{func(o *impl.Opt) { o.First, o.Second = nil, nil }, false}, optChange{func(o *impl.Opt) {}, true},
	)
}

func manyParams(count int) impl.Opt { return optOf(slices.Repeat(ints(1000), count)...) }

func TestOptOkOfEachChange(t *testing.T) {
	for number, row := range optChanges() {
		o := plainOpt()
		row.change(&o)
		if checkOptOk(t, o) != row.ok {
			t.Errorf("OptOk of change %d, %v, is not %v", number, o, row.ok)
		}
	}
	if checkOptOk(t, impl.Opt{}) || !checkOptOk(t, impl.Opt{Factor: 1}) || !checkOptOk(t, impl.Opt{Params: ints(), Factor: 65536, Count: testSteps, Good: testSteps}) {
		t.Error("OptOk of none")
	}
	for _, count := range ints(1, 4095, 4096, 4097) {
		if checkOptOk(t, manyParams(count)) != (count <= 4096) {
			t.Errorf("OptOk of %d Params", count)
		}
	}
	for by := range 63 {
		o := plainOpt()
		o.Factor = 1 << by
		if checkOptOk(t, o) != (by <= 16) {
			t.Errorf("OptOk with a Factor of 2^%d", by)
		}
	}
}

// wantMoved says what the document says of one parameter, at a rate u.
func wantMoved(r impl.Rule, param int, first int, second int, grad int, u int) (int, int, int) {
	all := wide(testParts)
	p, f, s, g := wide(param), wide(first), wide(second), wide(grad)
	less := func(way *big.Int) { p = new(big.Int).Sub(p, way) }
	times := func(a *big.Int, b int) *big.Int { return new(big.Int).Mul(a, wide(b)) }
	if r.Decay > 0 {
		less(nearBy(times(nearBy(times(p, r.Decay), all), u), all))
		p = wide(broughtTo(p, -testParam, testParam))
	}
	switch r.Kind {
	case 1:
		less(nearBy(times(g, u), all))
	case 2:
		f = nearBy(times(f, r.Keep), all)
		f = wide(broughtTo(f.Add(f, g), -testFirst, testFirst))
		less(nearBy(times(f, u), all))
	case 3:
		f = nearBy(new(big.Int).Add(times(f, r.Keep), times(g, testParts-r.Keep)), all)
		square := nearBy(product(grad, grad), all)
		s = nearBy(new(big.Int).Add(times(s, r.Keep2), times(square, testParts-r.Keep2)), all)
		root := new(big.Int).Sqrt(times(s, testParts))
		less(nearBy(times(f, u), root.Add(root, wide(r.Low))))
	}
	return broughtTo(p, -testParam, testParam), int(f.Int64()), int(s.Int64())
}

// wantStep says what the document says of StepOpt.
func wantStep(r impl.Rule, o impl.Opt, grads []int) (impl.Opt, bool) {
	if !wantRuleOk(r) || !wantOptOk(o) || o.Count == testSteps || len(grads) != len(o.Params) {
		return impl.Opt{}, false
	}
	next := copiedOpt(o)
	next.Count++
	if !allIn(-testGrad, testGrad, grads...) {
		next.Factor, next.Good = max(1, o.Factor/2), 0
		return next, true
	}
	g := make([]int, len(grads))
	for at, x := range grads {
		g[at] = wantNear(x, o.Factor)
	}
	if r.Most > 0 {
		g = wantClip(g, r.Most)
	}
	u := wantRate(r.Sched, o.Count)
	for at := range g {
		next.Params[at], next.First[at], next.Second[at] = wantMoved(r, o.Params[at], o.First[at], o.Second[at], g[at], u)
	}
	if next.Good < testSteps {
		next.Good++
	}
	if r.Grow > 0 && next.Good >= r.Grow {
		next.Factor, next.Good = min(2*o.Factor, testFactor), 0
	}
	return next, true
}

func checkStep(t *testing.T, r impl.Rule, o impl.Opt, grads []int) (impl.Opt, bool) {
	t.Helper()
	got, ok := impl.StepOpt(r, o, grads)
	if want, wantOk := wantStep(r, o, grads); !sameOpt(got, want) || ok != wantOk {
		t.Fatalf("StepOpt of %v, %.300s with %.300s is\n%.300s, %v, not\n%.300s, %v", r, fmt.Sprint(o), fmt.Sprint(grads), fmt.Sprint(got), ok, fmt.Sprint(want), wantOk)
	}
	if ok && !impl.OptOk(got) {
		t.Fatalf("StepOpt of %v, %.300s with %.300s is %.300s, which is not OptOk", r, fmt.Sprint(o), fmt.Sprint(grads), fmt.Sprint(got))
	}
	return got, ok
}

// atAnySize is a number of any size up to most, now and then an end, and by
// chance below 0 when least is.
func atAnySize(source *rand.Rand, least int, most int) int {
	x := source.Intn(most+1) >> source.Intn(bitsIn(most)+1)
	switch source.Intn(8) {
	case 0:
		x = most
	case 1:
		x = max(0, least)
	}
	if least < 0 && source.Intn(2) == 0 {
		x = -x
	}
	return max(x, least)
}

func bitsIn(n int) int { return wide(n).BitLen() }

func randomRule(source *rand.Rand) impl.Rule {
	r := impl.Rule{
		Kind: 1 + source.Intn(3), Sched: randomSched(source),
		Keep: atAnySize(source, 0, testParts), Keep2: atAnySize(source, 0, testParts), Low: atAnySize(source, 1, testRate),
		Decay: atAnySize(source, 0, testParts), Most: atAnySize(source, 0, testLength), Grow: source.Intn(5),
	}
	if source.Intn(3) == 0 {
		// Most parts are kept, as it is done.
		r.Keep, r.Keep2, r.Low = testParts-r.Keep>>4, testParts-r.Keep2>>8, 1+r.Low>>20
	}
	if source.Intn(2) == 0 {
		r.Decay, r.Most = r.Decay>>9, 0
	}
	return r
}

func randomOpt(source *rand.Rand, count int) impl.Opt {
	o := impl.Opt{Params: noughts(count), First: noughts(count), Second: noughts(count), Count: atAnySize(source, 0, testSteps), Factor: 1 << source.Intn(17), Good: source.Intn(6)}
	for at := range count {
		o.Params[at], o.First[at], o.Second[at] = atAnySize(source, -testParam, testParam), atAnySize(source, -testFirst, testFirst), atAnySize(source, 0, testSecond)
	}
	return o
}

func randomGrads(source *rand.Rand, count int) []int {
	g := randomGradient(source, count)
	if count > 0 && source.Intn(6) == 0 {
		g[source.Intn(count)] = ints(testGrad, -testGrad, testGrad+1, -testGrad-1, math.MaxInt, math.MinInt)[source.Intn(6)]
	}
	return g
}

func TestStepOptAgainstWords(t *testing.T) {
	source := rand.New(rand.NewSource(247))
	moved, skipped, grown := [4]int{}, 0, 0
	for range 20000 {
		r, count := randomRule(source), source.Intn(5)
		o, grads := randomOpt(source, count), randomGrads(source, count)
		next, ok := checkStep(t, r, o, grads)
		switch {
		case !ok:
		case !allIn(-testGrad, testGrad, grads...):
			skipped++
		default:
			moved[r.Kind]++
			if next.Factor > o.Factor {
				grown++
			}
		}
	}
	if min(moved[1], moved[2], moved[3]) < 4000 || skipped < 1000 || grown < 3000 {
		t.Errorf("%v have moved, %d were skipped, %d have grown", moved, skipped, grown)
	}
}

// A moveRow is one parameter's step: what stands ahead of it, and what comes.
type moveRow struct {
	kind, rate, keep, keep2, low, decay int
	p, f, s, factor, grad               int
	wantP, wantF, wantS                 int
}

func checkMoves(t *testing.T, rows []moveRow) {
	t.Helper()
	for _, row := range rows {
		r := ruleOf(row.kind, row.rate)
		r.Keep, r.Keep2, r.Low, r.Decay = row.keep, row.keep2, row.low, row.decay
		o := impl.Opt{Params: ints(row.p), First: ints(row.f), Second: ints(row.s), Count: 70, Factor: row.factor, Good: 9}
		want := impl.Opt{Params: ints(row.wantP), First: ints(row.wantF), Second: ints(row.wantS), Count: 71, Factor: row.factor, Good: 10}
		if got, ok := checkStep(t, r, o, ints(row.grad)); !ok || !sameOpt(got, want) {
			t.Errorf("%v gives %v, %v", row, got, ok)
		}
	}
}

func TestStepOptOfPlainRows(t *testing.T) {
	const one, half = 65536, 32768
	checkMoves(t, []moveRow{
		{1, one, 0, 0, 1, 0, 100, 5, 6, 1, 10, 90, 5, 6}, {1, one, 0, 0, 1, 0, 100, 5, 6, 1, -10, 110, 5, 6}, {1, one, 0, 0, 1, 0, 100, 5, 6, 1, 0, 100, 5, 6}, {1, 0, 0, 0, 1, 0, 100, 5, 6, 1, 10, 100, 5, 6},
		// Keep, Keep2 and Low say nothing here.
		{1, one, one, half, 99, 0, 100, -5, 6, 1, 10, 90, -5, 6},
		// Halves of a rate, then of a factor.
		{1, half, 0, 0, 1, 0, 100, 0, 0, 1, 5, 98, 0, 0}, {1, half, 0, 0, 1, 0, 100, 0, 0, 1, 7, 96, 0, 0}, {1, half, 0, 0, 1, 0, 100, 0, 0, 1, -5, 102, 0, 0}, {1, half, 0, 0, 1, 0, 100, 0, 0, 1, -7, 104, 0, 0}, {1, half, 0, 0, 1, 0, 101, 0, 0, 1, 5, 99, 0, 0},
		{1, one, 0, 0, 1, 0, 100, 0, 0, 2, 5, 98, 0, 0}, {1, one, 0, 0, 1, 0, 100, 0, 0, 2, 7, 96, 0, 0}, {1, one, 0, 0, 1, 0, 100, 0, 0, 2, -5, 102, 0, 0}, {1, one, 0, 0, 1, 0, 100, 0, 0, 2, -7, 104, 0, 0},
		// The factor's rounding comes first: 11 / 4 is 3, half of it 2; 13 / 4 is 3.
		{1, half, 0, 0, 1, 0, 100, 0, 0, 4, 11, 98, 0, 0}, {1, half, 0, 0, 1, 0, 100, 0, 0, 4, 13, 98, 0, 0}, {1, half, 0, 0, 1, 0, 100, 0, 0, 65536, 65536, 100, 0, 0}, {1, half, 0, 0, 1, 0, 100, 0, 0, 65536, 3 * 65536, 98, 0, 0},
		{1, one, 0, 0, 1, 0, 100, 0, 0, 65536, testGrad, -156, 0, 0}, {1, one, 0, 0, 1, 0, 100, 0, 0, 65536, -testGrad, 356, 0, 0}, {1, one, 0, 0, 1, 0, 100, 0, 0, 1, testGrad, 100 - testGrad, 0, 0},
		// Decay: the inner rounding, then the outer.
		{1, one, 0, 0, 1, one, 100, 0, 0, 1, 10, -10, 0, 0}, {1, one, 0, 0, 1, half, 5, 0, 0, 1, 0, 3, 0, 0}, {1, one, 0, 0, 1, half, 7, 0, 0, 1, 0, 3, 0, 0}, {1, one, 0, 0, 1, half, -5, 0, 0, 1, 0, -3, 0, 0}, {1, one, 0, 0, 1, half, -7, 0, 0, 1, 0, -3, 0, 0},
		{1, half, 0, 0, 1, half, 10, 0, 0, 1, 0, 8, 0, 0}, {1, half, 0, 0, 1, half, 14, 0, 0, 1, 0, 10, 0, 0}, {1, half, 0, 0, 1, half, -10, 0, 0, 1, 0, -8, 0, 0}, {1, half, 0, 0, 1, half, 5, 0, 0, 1, 4, 2, 0, 0},
		{1, 0, 0, 0, 1, one, 100, 0, 0, 1, 10, 100, 0, 0}, {1, one, 0, 0, 1, 1, 65536, 0, 0, 1, 0, 65535, 0, 0}, {1, one, 0, 0, 1, 1, 32768, 0, 0, 1, 0, 32768, 0, 0}, {1, one, 0, 0, 1, 1, 32769, 0, 0, 1, 0, 32768, 0, 0},
		// What decays is brought into bounds ahead of the gradient.
		{1, testRate, 0, 0, 1, one, testParam, 0, 0, 1, -testGrad, testFirst - testParam, 0, 0}, {1, testRate, 0, 0, 1, one, -testParam, 0, 0, 1, testGrad, testParam - testFirst, 0, 0},
		{1, testRate, 0, 0, 1, one, testParam, 0, 0, 1, testGrad, -testParam, 0, 0}, {1, testRate, 0, 0, 1, one, -testParam, 0, 0, 1, -testGrad, testParam, 0, 0},
		// And at the end.
		{1, one, 0, 0, 1, 0, testParam, 0, 0, 1, -1, testParam, 0, 0}, {1, one, 0, 0, 1, 0, testParam - 1, 0, 0, 1, -1, testParam, 0, 0}, {1, one, 0, 0, 1, 0, testParam - 1, 0, 0, 1, -2, testParam, 0, 0}, {1, one, 0, 0, 1, 0, testParam, 0, 0, 1, 1, testParam - 1, 0, 0},
		{1, one, 0, 0, 1, 0, -testParam, 0, 0, 1, 1, -testParam, 0, 0}, {1, one, 0, 0, 1, 0, 1 - testParam, 0, 0, 1, 1, -testParam, 0, 0}, {1, one, 0, 0, 1, 0, 1 - testParam, 0, 0, 1, 2, -testParam, 0, 0}, {1, one, 0, 0, 1, 0, -testParam, 0, 0, 1, -1, 1 - testParam, 0, 0},
		// The greatest way.
		{1, testRate, 0, 0, 1, 0, 0, 0, 0, 1, testGrad, -testFirst, 0, 0}, {1, testRate, 0, 0, 1, 0, 0, 0, 0, 1, -testGrad, testFirst, 0, 0},
		// First and Second at their ends stay.
		{1, one, 0, 0, 1, one, 8, testFirst, testSecond, 1, 3, -3, testFirst, testSecond}, {1, one, 0, 0, 1, one, 8, -testFirst, 0, 1, 3, -3, -testFirst, 0},
	})
}

func TestStepOptOfHeavyRows(t *testing.T) {
	const one, half = 65536, 32768
	checkMoves(t, []moveRow{
		{2, one, half, 0, 1, 0, 100, 10, 6, 1, 3, 92, 8, 6}, {2, one, half, 0, 1, 0, 100, -10, 6, 1, 3, 102, -2, 6}, {2, one, 0, 0, 1, 0, 100, 10, 6, 1, 3, 97, 3, 6}, {2, one, one, 0, 1, 0, 100, 10, 6, 1, 3, 87, 13, 6}, {2, 0, one, 0, 1, 0, 100, 10, 6, 1, 3, 100, 13, 6},
		// Halves of what is kept: 5 / 2, 7 / 2; then of the rate.
		{2, one, half, 0, 1, 0, 100, 5, 0, 1, 3, 95, 5, 0}, {2, one, half, 0, 1, 0, 100, 7, 0, 1, 3, 93, 7, 0}, {2, one, half, 0, 1, 0, 100, -5, 0, 1, 3, 99, 1, 0}, {2, one, half, 0, 1, 0, 100, -7, 0, 1, 3, 101, -1, 0},
		{2, half, one, 0, 1, 0, 100, 2, 0, 1, 3, 98, 5, 0}, {2, half, one, 0, 1, 0, 100, 4, 0, 1, 3, 96, 7, 0}, {2, half, one, 0, 1, 0, 100, -2, 0, 1, -3, 102, -5, 0}, {2, half, one, 0, 1, 0, 100, -4, 0, 1, -3, 104, -7, 0},
		// Keep2 and Low say nothing here; a factor does.
		{2, one, half, one, 88, 0, 100, 10, 6, 1, 3, 92, 8, 6}, {2, one, half, 0, 1, 0, 100, 10, 6, 2, 5, 93, 7, 6}, {2, one, half, 0, 1, 0, 100, 10, 6, 2, 7, 91, 9, 6},
		// First is brought into bounds, ahead of the way.
		{2, one, one, 0, 1, 0, 0, testFirst, 0, 1, 1, -testFirst, testFirst, 0}, {2, one, one, 0, 1, 0, 0, testFirst, 0, 1, testGrad, -testFirst, testFirst, 0}, {2, one, one, 0, 1, 0, 0, testFirst - 1, 0, 1, 1, -testFirst, testFirst, 0}, {2, one, one, 0, 1, 0, 0, testFirst - 1, 0, 1, 2, -testFirst, testFirst, 0}, {2, one, one, 0, 1, 0, 0, testFirst, 0, 1, -1, 1 - testFirst, testFirst - 1, 0},
		{2, one, one, 0, 1, 0, 0, -testFirst, 0, 1, -1, testFirst, -testFirst, 0}, {2, one, one, 0, 1, 0, 0, -testFirst, 0, 1, -testGrad, testFirst, -testFirst, 0}, {2, one, one, 0, 1, 0, 0, 1 - testFirst, 0, 1, -2, testFirst, -testFirst, 0}, {2, one, one, 0, 1, 0, 0, -testFirst, 0, 1, 1, testFirst - 1, 1 - testFirst, 0},
		// Decay comes first; Params at their ends.
		{2, one, half, 0, 1, half, 5, 10, 0, 1, 3, -5, 8, 0}, {2, one, one, 0, 1, one, 100, 10, 0, 1, 3, -13, 13, 0}, {2, testRate, one, 0, 1, one, testParam, -3 << 8, 0, 1, 0, 196608 - testParam, -3 << 8, 0},
		{2, testRate, one, 0, 1, 0, 0, testFirst, 0, 1, 0, -testParam, testFirst, 0}, {2, testRate, one, 0, 1, 0, 0, -testFirst, 0, 1, 0, testParam, -testFirst, 0}, {2, one, one, 0, 1, 0, testParam, -5, 0, 1, 0, testParam, -5, 0}, {2, one, one, 0, 1, 0, -testParam, 5, 0, 1, 0, -testParam, 5, 0}, {2, one, one, 0, 1, 0, testParam, 5, 0, 1, 0, testParam - 5, 5, 0},
		{2, one, half, 0, 1, 0, 100, 10, testSecond, 1, 3, 92, 8, testSecond},
	})
}

func TestStepOptOfEvenRows(t *testing.T) {
	const one, half = 65536, 32768
	checkMoves(t, []moveRow{
		// A gradient of 1: the square is 1, its root, too.
		{3, one, 0, 0, 1, 0, 100000, 7, 8, 1, one, 34465, one, one}, {3, one, 0, 0, one, 0, 100000, 7, 8, 1, one, 67232, one, one}, {3, one, 0, 0, one, 0, 100000, 7, 8, 1, -one, 132768, -one, one}, {3, 3 * one, 0, 0, one, 0, 100000, 7, 8, 1, one, 1696, one, one},
		// Half of both: (1 + 3) / 2 is 2, (7 + 9) / 2 is 8; the root of 8 is 185363 parts.
		{3, one, half, half, 1, 0, 200000, one, 7 * one, 1, 3 * one, 153659, 2 * one, 8 * one},
		// All is kept, nothing is kept.
		{3, one, one, one, 2, 0, 100, 6, 0, 1, 500, -196508, 6, 0}, {3, 1, one, one, 2, 0, 100, 6, 0, 1, 500, 97, 6, 0}, {3, one, 0, 0, 1, 0, 100, 6, 9, 1, 0, 100, 0, 0},
		// Halves: of First, of Second, of the way.
		{3, 0, half, one, 1, 0, 100, 2, 0, 1, 3, 100, 2, 0}, {3, 0, half, one, 1, 0, 100, 4, 0, 1, 3, 100, 4, 0}, {3, 0, half, one, 1, 0, 100, -2, 0, 1, -3, 100, -2, 0}, {3, 0, half, one, 1, 0, 100, -4, 0, 1, -3, 100, -4, 0}, {3, 0, half, one, 1, 0, 100, -1, 0, 1, 0, 100, 0, 0},
		{3, 0, one, half, 1, 0, 100, 0, 1, 1, 0, 100, 0, 0}, {3, 0, one, half, 1, 0, 100, 0, 3, 1, 0, 100, 0, 2}, {3, 0, one, half, 1, 0, 100, 0, 5, 1, 0, 100, 0, 2}, {3, 0, one, half, 1, 0, 100, 0, 2, 1, 256, 100, 0, 2}, {3, 0, one, half, 1, 0, 100, 0, 4, 1, -256, 100, 0, 2},
		{3, 1, one, one, 2, 0, 100, 5, 0, 1, 0, 98, 5, 0}, {3, 1, one, one, 2, 0, 100, 7, 0, 1, 0, 96, 7, 0}, {3, 1, one, one, 2, 0, 100, -5, 0, 1, 0, 102, -5, 0}, {3, 1, one, one, 2, 0, 100, -7, 0, 1, 0, 104, -7, 0},
		// A square is rounded ahead of its part: 181 * 181 is just below half of 65536, 182 * 182 above.
		{3, 0, 0, 0, 1, 0, 100, 0, 5, 1, 181, 100, 181, 0}, {3, 0, 0, 0, 1, 0, 100, 0, 5, 1, 182, 100, 182, 1}, {3, 0, 0, 0, 1, 0, 100, 0, 5, 1, -182, 100, -182, 1}, {3, 0, 0, half, 1, 0, 100, 0, 0, 1, 300, 100, 300, 0}, {3, 0, 0, half, 1, 0, 100, 0, 0, 1, 314, 100, 314, 1},
		// A factor.
		{3, 0, 0, 0, 1, 0, 100, 0, 5, 2, 2 * one, 100, one, one}, {3, 0, 0, 0, 1, 0, 100, 0, 5, 2, 363, 100, 182, 1}, {3, 0, 0, 0, 1, 0, 100, 0, 5, 2, 361, 100, 180, 0},
		// Second of 0 and a Low of 1: the way is the whole product, far beyond the ends.
		{3, testRate, one, one, 1, 0, 0, testFirst, 0, 1, 0, -testParam, testFirst, 0}, {3, testRate, one, one, 1, 0, 0, -testFirst, 0, 1, 0, testParam, -testFirst, 0}, {3, 1, one, one, 1, 0, testFirst, testFirst, 0, 1, 0, 0, testFirst, 0}, {3, 1, one, one, testRate, 0, testFirst, testFirst, 0, 1, 0, testFirst - 256, testFirst, 0},
		// Second at its greatest, of which the root is 2^25.
		{3, testRate, one, one, 1, 0, 0, testFirst, testSecond, 1, 0, -2147483584, testFirst, testSecond}, {3, testRate, one, one, 1, 0, 0, -testFirst, testSecond, 1, testGrad, 2147483584, -testFirst, testSecond}, {3, testRate, one, 0, 1, 0, 0, testFirst, testSecond, 1, testGrad, 256 - 1<<32, testFirst, 1 << 32}, {3, 0, 0, 0, 1, 0, 0, testFirst, testSecond, 1, testGrad, 0, testGrad, 1 << 32}, {3, 0, 0, half, 1, 0, 0, 0, testSecond, 1, -testGrad, 0, -testGrad, 5 << 31},
		// Decay comes first; Params at their ends.
		{3, one, one, one, one, half, 5, 10, 0, 1, 0, -7, 10, 0}, {3, one, one, one, one, 0, testParam, -1, 0, 1, 0, testParam, -1, 0}, {3, one, one, one, one, 0, -testParam, 1, 0, 1, 0, -testParam, 1, 0}, {3, one, one, one, one, 0, testParam, 1, 0, 1, 0, testParam - 1, 1, 0},
		{3, testRate, one, one, testRate, one, testParam, -3, 0, 1, 0, 3 - testParam, -3, 0},
	})
}

func TestStepOptByTheRateAtCount(t *testing.T) {
	for _, kind := range ints(1, 2, 3) {
		r := impl.Rule{Kind: kind, Sched: schedOf(4*65536, 65536, 2, 5), Low: 65536}
		// Rates of 2, 4, 4, 3, 2, 1, 1.
		for count, want := range ints(2, 4, 4, 3, 2, 1, 1) {
			o := optOf(0)
			o.Count = count
			if got, ok := checkStep(t, r, o, ints(-10)); !ok || got.Params[0] != 10*want || got.Count != count+1 {
				t.Errorf("a step of kind %d at %d is %v", kind, count, got)
			}
		}
	}
	r := ruleOf(1, 0)
	r.Sched = schedOf(testRate, 0, 0, testSteps)
	o := optOf(0)
	o.Count = 999999
	if got, ok := checkStep(t, r, o, ints(testGrad)); !ok || got.Params[0] != -17*256 || got.Count != testSteps {
		t.Errorf("the last step is %v", got)
	}
}

func TestStepOptClips(t *testing.T) {
	for _, row := range []struct {
		most, factor int
		grads, want  []int
	}{
		{0, 1, ints(6, 8), ints(-6, -8)}, {5, 1, ints(6, 8), ints(-3, -4)}, {5, 1, ints(-6, 8), ints(3, -4)}, {9, 1, ints(6, 8), ints(-5, -7)}, {10, 1, ints(6, 8), ints(-6, -8)}, {11, 1, ints(6, 8), ints(-6, -8)}, {testLength, 1, ints(6, 8), ints(-6, -8)}, {1, 1, ints(6, 8), ints(-1, -1)}, {1, 1, ints(-6, 0), ints(1, 0)},
		// Behind the factor's rounding.
		{5, 2, ints(12, 16), ints(-3, -4)}, {10, 2, ints(12, 16), ints(-6, -8)}, {9, 2, ints(12, 16), ints(-5, -7)}, {5, 4, ints(26, 30), ints(-3, -4)}, {20, 4, ints(26, 30), ints(-6, -8)}, {0, 4, ints(26, 30), ints(-6, -8)},
		{0, 1, ints(testGrad, -testGrad), ints(-testGrad, testGrad)}, {1 << 20, 1, ints(testGrad, 0), ints(-1<<20, 0)}, {testLength, 1, ints(testGrad, testGrad), ints(-testGrad, -testGrad)},
	} {
		for _, kind := range ints(1, 2) {
			r, o := ruleOf(kind, 65536), optOf(0, 0)
			r.Most, o.Factor = row.most, row.factor
			if got, ok := checkStep(t, r, o, row.grads); !ok || !slices.Equal(got.Params, row.want) {
				t.Errorf("a step of kind %d by %v is %v", kind, row, got)
			}
		}
		// What is clipped is what is squared.
		r, o := ruleOf(3, 0), optOf(0, 0)
		r.Most, o.Factor = row.most, row.factor
		if got, ok := checkStep(t, r, o, row.grads); !ok || got.First[0] != -row.want[0] || got.First[1] != -row.want[1] || got.Second[0] != impl.Near(row.want[0]*row.want[0], 65536) {
			t.Errorf("a step of kind 3 by %v is %v", row, got)
		}
	}
}

func TestStepOptGrows(t *testing.T) {
	for _, row := range []struct{ grow, good, factor, wantGood, wantFactor int }{
		{0, 0, 1, 1, 1}, {0, 5, 4, 6, 4}, {0, 999998, 4, 999999, 4}, {0, 999999, 4, 1000000, 4}, {0, 1000000, 4, 1000000, 4}, {0, 1000000, 65536, 1000000, 65536},
		// Just below Grow, at it, and beyond.
		{6, 3, 4, 4, 4}, {6, 4, 4, 5, 4}, {6, 5, 4, 0, 8}, {6, 6, 4, 0, 8}, {6, 1000000, 4, 0, 8}, {1, 0, 1, 0, 2}, {2, 0, 1, 1, 1}, {2, 1, 1, 0, 2},
		{1000000, 999998, 4, 999999, 4}, {1000000, 999999, 4, 0, 8}, {1000000, 1000000, 4, 0, 8}, {999999, 999998, 4, 0, 8}, {999999, 999997, 4, 999998, 4},
		// At the greatest factor.
		{6, 5, 32768, 0, 65536}, {6, 5, 65536, 0, 65536}, {6, 4, 65536, 5, 65536}, {1, 0, 65536, 0, 65536},
	} {
		for _, kind := range ints(1, 2, 3) {
			r, o := ruleOf(kind, 65536), optOf(8, 9)
			r.Grow, o.Good, o.Factor = row.grow, row.good, row.factor
			if got, ok := checkStep(t, r, o, ints(3, 4)); !ok || got.Good != row.wantGood || got.Factor != row.wantFactor || got.Count != 1 {
				t.Errorf("Grow %d, Good %d, Factor %d become Good %d, Factor %d", row.grow, row.good, row.factor, got.Good, got.Factor)
			}
			// Without Params there are good steps, too.
			none := impl.Opt{Factor: row.factor, Good: row.good}
			if got, ok := checkStep(t, r, none, nil); !ok || got.Good != row.wantGood || got.Factor != row.wantFactor || got.Count != 1 || len(got.Params) != 0 {
				t.Errorf("without Params %v becomes %v", none, got)
			}
		}
	}
}

func TestStepOptAtTheEndsOfGrads(t *testing.T) {
	for _, kind := range ints(1, 2, 3) {
		for at := range 3 {
			for _, x := range append(around(-testGrad, testGrad), 1<<32, 1<<62) {
				for _, factor := range ints(1, 2, 4, 65536) {
					r, o := plainRule(), plainOpt()
					r.Kind, o.Factor = kind, factor
					next, ok := checkStep(t, r, o, replaced(ints(1000, -2000, 3000), at, x))
					if !ok || next.Count != 6 {
						t.Fatalf("a step with %d at %d is %v, %v", x, at, next, ok)
					}
					if inside := x >= -testGrad && x <= testGrad; inside != (next.Good == 4) || inside == slices.Equal(next.Params, o.Params) {
						t.Errorf("a step with %d at %d is %v", x, at, next)
					}
				}
			}
		}
	}
}

// P38: a skipped step leaves the parameters, and all else but Factor, Good and
// Count.
func TestSkippedStepLeavesTheParameters(t *testing.T) {
	source := rand.New(rand.NewSource(248))
	for _, row := range [][2]int{{1, 1}, {2, 1}, {4, 2}, {8, 4}, {32768, 16384}, {65536, 32768}} {
		for _, good := range ints(0, 5, 999999, 1000000) {
			for _, x := range ints(testGrad+1, -testGrad-1, math.MaxInt, math.MinInt) {
				r, o := randomRule(source), randomOpt(source, 3)
				o.Factor, o.Good, o.Count = row[0], good, min(o.Count, 999999)
				want := copiedOpt(o)
				want.Factor, want.Good, want.Count = row[1], 0, o.Count+1
				if got, ok := checkStep(t, r, o, replaced(ints(7, 8, 9), source.Intn(3), x)); !ok || !sameOpt(got, want) {
					t.Errorf("a skipped step of %v is %v, %v", o, got, ok)
				}
			}
		}
	}
	// Grow and Most change nothing, nor do several that are out.
	r, o := plainRule(), plainOpt()
	r.Grow, r.Most = 1, 1
	want := impl.Opt{Params: ints(400, -500, 600), First: ints(-10, 20, 30), Second: ints(7, 8, 9), Count: 6, Factor: 2, Good: 0}
	if got, ok := checkStep(t, r, o, ints(testGrad+1, 5, -testGrad-1)); !ok || !sameOpt(got, want) {
		t.Errorf("a skipped step is %v, %v", got, ok)
	}
}

func TestStepOptOfWhatIsNotSo(t *testing.T) {
	right := 0
	check := func(r impl.Rule, o impl.Opt, grads []int, ok bool) {
		t.Helper()
		got, gotOk := checkStep(t, r, o, grads)
		if gotOk != ok || !ok && !isNoOpt(got) {
			t.Errorf("StepOpt of %v, %v with %v is %v, %v", r, o, grads, got, gotOk)
		}
		if gotOk {
			right++
		}
	}
	for _, grads := range [][]int{ints(5, 6, 7), ints(5, testGrad+1, 7)} {
		for _, row := range ruleChanges() {
			r := plainRule()
			row.change(&r)
			check(r, plainOpt(), grads, row.ok)
		}
		for _, row := range optChanges() {
			o := plainOpt()
			row.change(&o)
			check(plainRule(), o, grads, row.ok && o.Count < testSteps)
		}
		for _, count := range ints(0, 1, 999998, 999999, 1000000) {
			o := plainOpt()
			o.Count = count
			check(plainRule(), o, grads, count < 1000000)
		}
	}
	for _, grads := range [][]int{nil, ints(), ints(5), ints(5, 6), ints(5, 6, 7, 8), ints(5, 6, 7, testGrad+1), ints(5, testGrad+1), noughts(4096), noughts(4097)} {
		check(plainRule(), plainOpt(), grads, false)
	}
	check(plainRule(), impl.Opt{Factor: 1}, nil, true)
	check(plainRule(), impl.Opt{Factor: 1}, ints(0), false)
	check(plainRule(), impl.Opt{}, nil, false)
	check(impl.Rule{}, plainOpt(), ints(5, 6, 7), false)
	if right < 250 {
		t.Errorf("only %d are right", right)
	}
}

func TestStepOptAtMaxSize(t *testing.T) {
	source := rand.New(rand.NewSource(249))
	for _, kind := range ints(1, 2, 3) {
		r := plainRule()
		r.Kind = kind
		o, grads := randomOpt(source, 4096), randomGradient(source, 4096)
		o.Count = 7
		if _, ok := checkStep(t, r, o, grads); !ok {
			t.Error("StepOpt of just MaxSize is false")
		}
		if _, ok := checkStep(t, r, o, grads[1:]); ok {
			t.Error("StepOpt with one fewer is true")
		}
		if _, ok := checkStep(t, r, manyParams(4097), noughts(4097)); ok {
			t.Error("StepOpt of more than MaxSize is true")
		}
	}
}

// wantRunOpt says what the document says of RunOpt.
func wantRunOpt(r impl.Rule, o impl.Opt, list [][]int) (impl.Opt, int) {
	if !wantOptOk(o) {
		return impl.Opt{}, 0
	}
	for done, grads := range list {
		next, ok := wantStep(r, o, grads)
		if !ok {
			return o, done
		}
		o = next
	}
	return o, len(list)
}

func checkRunOpt(t *testing.T, r impl.Rule, o impl.Opt, list [][]int) (impl.Opt, int) {
	t.Helper()
	got, done := impl.RunOpt(r, o, list)
	if want, wantDone := wantRunOpt(r, o, list); !sameOpt(got, want) || done != wantDone {
		t.Fatalf("RunOpt of %v, %.300s with %.300s is\n%.300s, %d, not\n%.300s, %d", r, fmt.Sprint(o), fmt.Sprint(list), fmt.Sprint(got), done, fmt.Sprint(want), wantDone)
	}
	return got, done
}

// checkPieces holds P38: in two pieces at each place the run is the same.
func checkPieces(t *testing.T, r impl.Rule, o impl.Opt, list [][]int) int {
	t.Helper()
	whole, done := checkRunOpt(t, r, o, list)
	for at := range len(list) + 1 {
		begun, first := impl.RunOpt(r, o, list[:at])
		ended, second := impl.RunOpt(r, begun, list[at:])
		if first < at {
			// It stopped in the first piece; the second would go on behind that.
			if !sameOpt(begun, whole) || first != done {
				t.Fatalf("the first %d of %v give %v, %d, all %v, %d", at, list, begun, first, whole, done)
			}
			continue
		}
		if !sameOpt(ended, whole) || first+second != done {
			t.Fatalf("cut at %d the run of %v, %v with %v gives %v, %d and %d, not %v, %d", at, r, o, list, ended, first, second, whole, done)
		}
	}
	return done
}

func randomList(source *rand.Rand, count int, size int) [][]int {
	list := make([][]int, count)
	for at := range list {
		list[at] = randomGrads(source, size)
	}
	return list
}

func TestRunOptInPiecesIsRunOpt(t *testing.T) {
	source := rand.New(rand.NewSource(250))
	whole, short := 0, 0
	for range 1500 {
		r, size, count := randomRule(source), source.Intn(4), source.Intn(9)
		o, list := randomOpt(source, size), randomList(source, count, size)
		switch source.Intn(6) {
		case 0:
			o.Count = testSteps - source.Intn(6)
		case 1:
			if count > 0 {
				list[source.Intn(count)] = randomGrads(source, source.Intn(5))
			}
		}
		if checkPieces(t, r, o, list) == count {
			whole++
		} else {
			short++
		}
	}
	if whole < 700 || short < 150 {
		t.Errorf("%d runs were whole, %d not", whole, short)
	}
}

func TestRunOptRows(t *testing.T) {
	r := ruleOf(1, 65536)
	for _, row := range []struct {
		list                      [][]int
		params                    []int
		count, factor, good, done int
	}{
		{nil, ints(100, 200), 0, 4, 0, 0}, {rowsOf(), ints(100, 200), 0, 4, 0, 0}, {rowsOf(ints(4, 8)), ints(99, 198), 1, 4, 1, 1}, {rowsOf(ints(4, 8), ints(-8, -12)), ints(101, 201), 2, 4, 2, 2},
		// One that is not as many: the steps ahead of it stand, and none comes behind it.
		{rowsOf(ints(4, 8), ints(4), ints(4, 8)), ints(99, 198), 1, 4, 1, 1}, {rowsOf(ints(4, 8), ints(4, 8, 12), ints(4, 8)), ints(99, 198), 1, 4, 1, 1}, {rowsOf(ints(), ints(4, 8)), ints(100, 200), 0, 4, 0, 0}, {rowsOf(ints(4, 8), ints(4, 8), nil), ints(98, 196), 2, 4, 2, 2}, {rowsOf(ints(testGrad + 1)), ints(100, 200), 0, 4, 0, 0},
		// Skipped steps count; the factor is another behind them.
		{rowsOf(ints(4, testGrad+1)), ints(100, 200), 1, 2, 0, 1}, {rowsOf(ints(4, 8), ints(testGrad+1, 8), ints(4, 8)), ints(97, 194), 3, 2, 1, 3}, {rowsOf(ints(-testGrad-1, 8), ints(math.MaxInt, 8), ints(4, math.MinInt), ints(4, 8)), ints(96, 192), 4, 1, 1, 4},
	} {
		o := optOf(100, 200)
		o.Factor = 4
		want := optOf(row.params...)
		want.Count, want.Factor, want.Good = row.count, row.factor, row.good
		checkPieces(t, r, o, row.list)
		if got, done := checkRunOpt(t, r, o, row.list); done != row.done || !sameOpt(got, want) {
			t.Errorf("RunOpt with %v is %v, %d", row.list, got, done)
		}
	}
}

// The factor grows behind each second good step, and is halved by a skipped
// one: grads of 16 are 16, 16, 8, 8, 4, then 8, 8 and 4.
func TestRunOptGrowsAndSkips(t *testing.T) {
	r := ruleOf(1, 65536)
	r.Grow = 2
	list := append(slices.Repeat([][]int{{16}}, 5), ints(testGrad+1), ints(16), ints(16), ints(16))
	want := optOf(1000 - 16 - 16 - 8 - 8 - 4 - 8 - 8 - 4)
	want.Count, want.Factor, want.Good = 9, 4, 1
	if got, done := checkRunOpt(t, r, optOf(1000), list); done != 9 || !sameOpt(got, want) {
		t.Errorf("the run gives %v, %d", got, done)
	}
	checkPieces(t, r, optOf(1000), list)
}

func TestRunOptOfWhatIsNotSo(t *testing.T) {
	list := rowsOf(ints(5, 6, 7), ints(5, testGrad+1, 7), ints(8, 9, 10))
	for _, steps := range [][][]int{list, nil, rowsOf(ints(1))} {
		for _, row := range optChanges() {
			o := plainOpt()
			row.change(&o)
			got, done := checkRunOpt(t, plainRule(), o, steps)
			if !row.ok && (!isNoOpt(got) || done != 0) {
				t.Errorf("RunOpt of %v is %v, %d", o, got, done)
			}
		}
		// Of a rule that is not RuleOk no step is true.
		for _, row := range ruleChanges() {
			r := plainRule()
			row.change(&r)
			got, done := checkRunOpt(t, r, plainOpt(), steps)
			if !row.ok && (!sameOpt(got, plainOpt()) || done != 0) {
				t.Errorf("RunOpt by %v is %v, %d", r, got, done)
			}
		}
		if got, done := checkRunOpt(t, impl.Rule{}, impl.Opt{}, steps); !isNoOpt(got) || done != 0 {
			t.Errorf("RunOpt of zero values is %v, %d", got, done)
		}
		if got, done := checkRunOpt(t, impl.Rule{}, manyParams(4097), steps); !isNoOpt(got) || done != 0 {
			t.Errorf("RunOpt of more than MaxSize is %.200s, %d", fmt.Sprint(got), done)
		}
	}
}

func TestRunOptReachesTheLastCount(t *testing.T) {
	r := ruleOf(2, 65536)
	list := slices.Repeat([][]int{{1}}, 6)
	for left := range 8 {
		o := optOf(100)
		o.Count = testSteps - left
		got, done := checkRunOpt(t, r, o, list)
		if want := min(left, 6); done != want || got.Count != o.Count+want || got.Params[0] != 100-want {
			t.Errorf("with %d left the run gives %v, %d", left, got, done)
		}
		checkPieces(t, r, o, list)
	}
	// All steps that there can be, of which the second half is skipped.
	long := slices.Repeat([][]int{{1}}, testSteps+1)
	for at := testSteps / 2; at < len(long); at++ {
		long[at] = ints(testGrad + 1)
	}
	r.Kind = impl.RulePlain
	want := optOf(-testSteps / 2)
	want.Count = testSteps
	if got, done := impl.RunOpt(r, optOf(0), long); done != testSteps || !sameOpt(got, want) {
		t.Errorf("the longest run gives %v, %d", got, done)
	}
}

func TestRunOptIsStepByStep(t *testing.T) {
	source := rand.New(rand.NewSource(251))
	for range 200 {
		r, size := randomRule(source), source.Intn(4)
		o := randomOpt(source, size)
		o.Count = source.Intn(40)
		list := randomList(source, 12, size)
		now := o
		for at, grads := range list {
			next, ok := impl.StepOpt(r, now, grads)
			if !ok {
				t.Fatalf("step %d of %v is false", at, list)
			}
			now = next
		}
		if got, done := impl.RunOpt(r, o, list); done != 12 || !sameOpt(got, now) {
			t.Fatalf("RunOpt of %v, %v with %v is %v, step by step %v", r, o, list, got, now)
		}
	}
}

// factorsOf are those with which the steps of a run begin, none of them skipped.
func factorsOf(factor int, good int, grow int, count int) []int {
	made := []int{}
	for range count {
		made = append(made, factor)
		good++
		if grow > 0 && good >= grow {
			factor, good = min(2*factor, testFactor), 0
		}
	}
	return made
}

// P39: the same run with another factor, and with grads as many times as great.
func TestFactorChangesNothing(t *testing.T) {
	source := rand.New(rand.NewSource(252))
	for range 1500 {
		r, size, count := randomRule(source), 1+source.Intn(4), 1+source.Intn(8)
		o := randomOpt(source, size)
		o.Count = source.Intn(30)
		if source.Intn(3) == 0 {
			r.Grow = 0
		}
		plain := make([][]int, count)
		for at := range plain {
			// Times the greatest factor these are in bounds.
			plain[at] = make([]int, size)
			for place := range plain[at] {
				plain[at][place] = source.Intn(513) - 256
			}
		}
		ends := []impl.Opt{}
		for by := range 17 {
			begun, list := copiedOpt(o), make([][]int, count)
			begun.Factor = 1 << by
			for at, factor := range factorsOf(begun.Factor, begun.Good, r.Grow, count) {
				for _, g := range plain[at] {
					list[at] = append(list[at], g*factor)
				}
			}
			end, done := impl.RunOpt(r, begun, list)
			if done != count {
				t.Fatalf("the run of %v, %v with %v ends at %d", r, begun, list, done)
			}
			end.Factor = 1
			ends = append(ends, end)
		}
		for by, end := range ends {
			if !sameOpt(end, ends[0]) {
				t.Fatalf("the run of %v, %v with %v: by a factor of 2^%d it ends with %v, by 1 with %v", r, o, plain, by, end, ends[0])
			}
		}
	}
}

func TestFactorChangesNothingAtTheEndsOfGrads(t *testing.T) {
	for _, kind := range ints(1, 2, 3) {
		for _, x := range ints(-256, -255, -1, 0, 1, 255, 256) {
			r, o := plainRule(), plainOpt()
			r.Kind, o.Factor = kind, 1
			want, _ := checkStep(t, r, o, ints(x, -x, 7))
			for by := range 17 {
				o.Factor = 1 << by
				got, ok := checkStep(t, r, o, ints(x<<by, -x<<by, 7<<by))
				if got.Factor = 1; !ok || !sameOpt(got, want) {
					t.Errorf("a step of kind %d by a factor of 2^%d gives %v, not %v", kind, by, got, want)
				}
			}
		}
	}
}

func TestStepListsAreLeftAlone(t *testing.T) {
	source := rand.New(rand.NewSource(253))
	for range 600 {
		r, size, count := randomRule(source), source.Intn(5), source.Intn(4)
		o, list := withRooms(randomOpt(source, size)), withRooms(randomList(source, count, size))
		g, most := withRooms(randomGrads(source, size)), source.Intn(2*testGrad)>>source.Intn(26)
		switch source.Intn(8) {
		case 0:
			o = withRooms(impl.Opt{Params: o.Params, First: o.First, Second: o.Second})
		case 1:
			r.Kind = 0
		case 2:
			o.Count = testSteps - source.Intn(3)
		}
		checkLeftAlone(t, "Norm", func() int { return impl.Norm(g) }, g)
		checkLeftAlone(t, "Clip", func() []int { return impl.Clip(g, most) }, g)
		checkLeftAlone(t, "OptOk", func() bool { return impl.OptOk(o) }, o)
		checkLeftAlone(t, "StepOpt", func() impl.Opt { next, _ := impl.StepOpt(r, o, g); return next }, o, g)
		checkLeftAlone(t, "RunOpt", func() impl.Opt { end, _ := impl.RunOpt(r, o, list); return end }, o, list)
		checkLeftAlone(t, "RunOpt", func() impl.Opt { end, _ := impl.RunOpt(r, o, nil); return end }, o)
	}
	// One list may stand in several places.
	same := withRooms(ints(1, 2, 3, 4))
	o := impl.Opt{Params: same, First: same, Second: same, Factor: 1}
	for _, kind := range ints(1, 2, 3) {
		checkLeftAlone(t, "StepOpt", func() impl.Opt { next, _ := impl.StepOpt(ruleOf(kind, 65536), o, same); return next }, same)
		checkLeftAlone(t, "RunOpt", func() impl.Opt {
			end, _ := impl.RunOpt(ruleOf(kind, 65536), o, rowsOf(same, same, same))
			return end
		}, same)
		checkStep(t, ruleOf(kind, 65536), o, same)
		checkRunOpt(t, ruleOf(kind, 65536), o, rowsOf(same, same, same))
	}
}

func TestRoomBehindStepListsIsNotRead(t *testing.T) {
	g := ints(6, 8, math.MaxInt, 100)
	if got := checkNorm(t, g[:2]); got != 10 {
		t.Errorf("Norm has read behind the list: %d", got)
	}
	if got := checkClip(t, g[:2], 5); !slices.Equal(got, ints(3, 4)) {
		t.Errorf("Clip has read behind the list: %v", got)
	}
	o := impl.Opt{Params: ints(100, 200, math.MaxInt)[:2], First: ints(0, 0, math.MaxInt)[:2], Second: ints(0, 0, -1)[:2], Factor: 1}
	if !checkOptOk(t, o) {
		t.Error("OptOk has read behind a list")
	}
	if got, ok := checkStep(t, ruleOf(1, 65536), o, g[:2]); !ok || !slices.Equal(got.Params, ints(94, 192)) || got.Good != 1 {
		t.Errorf("StepOpt has read behind a list: %v, %v", got, ok)
	}
	list := rowsOf(g[:2], g[:2], ints(testGrad+1, 0))
	if got, done := checkRunOpt(t, ruleOf(1, 65536), o, list[:2]); done != 2 || !slices.Equal(got.Params, ints(88, 184)) || got.Good != 2 {
		t.Errorf("RunOpt has read behind a list: %v, %d", got, done)
	}
}

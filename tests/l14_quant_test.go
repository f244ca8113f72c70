package tests

import (
	"fmt"
	"math"
	"math/big"
	"math/rand"
	"slices"
	"testing"

	"loop.example/g00033/impl"
)

const (
	testReal = 1 << 40
	testStep = 1 << 24
	testSum  = 1 << 30
	testMult = 1 << 31
)

func TestSmallNumberLimits(t *testing.T) {
	if impl.MaxReal != testReal {
		t.Error("the limit of chapter 14")
	}
}

func scaleOf(step int, zero int) impl.Scale { return impl.Scale{Step: step, Zero: zero} }

func edgeSteps() []int {
	return ints(1, 2, 3, 10, 255, 65535, 65536, 65537, testStep-1, testStep, testStep+1, testReal-1, testReal)
}

func edgeZeros() []int { return ints(0, 1, 127, 128, 254, 255) }

// goodScales are all pairs at the edges that can be.
func goodScales() []impl.Scale {
	made := []impl.Scale{}
	for _, step := range edgeSteps() {
		for _, zero := range edgeZeros() {
			made = append(made, scaleOf(step, zero))
		}
	}
	return made
}

func wrongScales() []impl.Scale {
	made := []impl.Scale{{}}
	for _, step := range ints(0, -1, -10, testReal+1, math.MaxInt, math.MinInt) {
		made = append(made, scaleOf(step, 0), scaleOf(step, 100), scaleOf(step, 255), scaleOf(step, 256), scaleOf(step, -1))
	}
	for _, zero := range ints(-1, 256, 257, math.MaxInt, math.MinInt) {
		made = append(made, scaleOf(1, zero), scaleOf(10, zero), scaleOf(testReal, zero))
	}
	return made
}

func wantScaleOk(s impl.Scale) bool {
	return s.Step >= 1 && s.Step <= testReal && s.Zero >= 0 && s.Zero <= 255
}

func areRealsAll(xs []int) bool {
	return !slices.ContainsFunc(xs, func(x int) bool { return x < -testReal || x > testReal })
}

func areBytesAll(qs []int) bool {
	return !slices.ContainsFunc(qs, func(q int) bool { return q < 0 || q > 255 })
}

// broughtTo is x, or the bound that it is beyond.
func broughtTo(x *big.Int, least int, most int) int {
	if x.Cmp(wide(least)) < 0 {
		return least
	}
	if x.Cmp(wide(most)) > 0 {
		return most
	}
	return int(x.Int64())
}

// freeByte is what Quantise would give if nothing were brought into 0 .. 255.
func freeByte(s impl.Scale, x int) *big.Int {
	near := nearestInt(new(big.Rat).SetFrac(wide(x), wide(s.Step)))
	return near.Add(near, wide(s.Zero))
}

func isFree(q *big.Int) bool { return q.Sign() >= 0 && q.Cmp(wide(255)) <= 0 }

// wantQuantise says what the document says of Quantise.
func wantQuantise(s impl.Scale, x int) int {
	if !wantScaleOk(s) || !areRealsAll(ints(x)) {
		return 0
	}
	return broughtTo(freeByte(s, x), 0, 255)
}

func TestScaleOkOfEachPair(t *testing.T) {
	for _, s := range goodScales() {
		if !impl.ScaleOk(s) {
			t.Errorf("%v is not ScaleOk", s)
		}
	}
	for _, s := range wrongScales() {
		if impl.ScaleOk(s) {
			t.Errorf("%v is ScaleOk", s)
		}
	}
	numbers := append(testInts(), ints(255, 256, testReal-1, testReal, testReal+1)...)
	for _, step := range numbers {
		for _, zero := range numbers {
			if s := scaleOf(step, zero); impl.ScaleOk(s) != wantScaleOk(s) {
				t.Errorf("ScaleOk of %v", s)
			}
		}
	}
}

func TestScaleOkRows(t *testing.T) {
	for _, row := range []struct {
		step, zero int
		want       bool
	}{
		{1, 0, true}, {1, 255, true}, {1099511627776, 0, true}, {1099511627776, 255, true}, {10, 100, true},
		{0, 0, false}, {-1, 0, false}, {1099511627777, 0, false}, {0, 255, false}, {-1, 255, false},
		{1, -1, false}, {1, 256, false}, {1099511627776, 256, false}, {0, -1, false}, {0, 256, false}, {1099511627777, 256, false},
	} {
		if got := impl.ScaleOk(scaleOf(row.step, row.zero)); got != row.want {
			t.Errorf("ScaleOk of Step %d, Zero %d is %v", row.step, row.zero, got)
		}
	}
}

// realsFor are reals at which a scale's bytes change, and others, and some that
// are none.
func realsFor(s impl.Scale, source *rand.Rand) []int {
	made := append(testInts(), ints(testReal, testReal+1, -testReal, -testReal-1, testReal-1, 1-testReal)...)
	for _, q := range ints(-2, -1, 0, 1, 2, 127, 128, 253, 254, 255, 256, 257, s.Zero-1, s.Zero, s.Zero+1, source.Intn(256)) {
		if wantScaleOk(s) {
			middle := s.Step * (q - s.Zero)
			half := s.Step / 2
			made = append(made, middle-half-1, middle-half, middle-half+1, middle-1, middle, middle+1, middle+half-1, middle+half, middle+half+1)
		}
	}
	return made
}

func TestQuantiseAgainstWords(t *testing.T) {
	source := rand.New(rand.NewSource(230))
	for _, s := range append(goodScales(), wrongScales()...) {
		for _, x := range realsFor(s, source) {
			if got, want := impl.Quantise(s, x), wantQuantise(s, x); got != want {
				t.Errorf("Quantise of %d by %v is %d, not %d", x, s, got, want)
			}
		}
	}
}

func TestQuantiseRows(t *testing.T) {
	for _, row := range []struct{ step, zero, x, want int }{
		{10, 100, 0, 100}, {10, 100, 24, 102}, {10, 100, 26, 103}, {10, 100, -24, 98}, {10, 100, -26, 97},
		// Halves go to the even number of Steps, whatever Zero is.
		{10, 100, 5, 100}, {10, 100, 15, 102}, {10, 100, 25, 102}, {10, 100, 35, 104},
		{10, 100, -5, 100}, {10, 100, -15, 98}, {10, 100, -25, 98}, {10, 100, -35, 96},
		{10, 101, 5, 101}, {10, 101, 15, 103}, {10, 101, -5, 101}, {10, 101, -15, 99},
		// A Step greater than x.
		{10, 100, 4, 100}, {10, 100, 6, 101}, {testReal, 7, testReal, 8}, {testReal, 7, -testReal, 6}, {testReal, 7, testReal / 2, 7}, {testReal, 7, testReal/2 + 1, 8},
		// Just on 0 and 255, and beyond.
		{10, 100, -1000, 0}, {10, 100, -1010, 0}, {10, 100, -990, 1}, {10, 100, 1550, 255}, {10, 100, 1560, 255}, {10, 100, 1540, 254},
		{1, 0, 0, 0}, {1, 0, -1, 0}, {1, 0, 1, 1}, {1, 255, 0, 255}, {1, 255, 1, 255}, {1, 255, -1, 254},
		{1, 100, testReal, 255}, {1, 100, -testReal, 0},
		// No reals.
		{10, 100, testReal + 1, 0}, {10, 100, -testReal - 1, 0}, {testReal, 7, testReal + 1, 0}, {testReal, 7, -testReal - 1, 0},
		{10, 100, math.MaxInt, 0}, {10, 100, math.MinInt, 0},
		// No scales.
		{0, 100, 25, 0}, {-10, 100, 25, 0}, {testReal + 1, 100, 25, 0}, {10, -1, 25, 0}, {10, 256, 25, 0}, {0, 256, 25, 0},
	} {
		if got := impl.Quantise(scaleOf(row.step, row.zero), row.x); got != row.want {
			t.Errorf("Quantise of %d by Step %d, Zero %d is %d, not %d", row.x, row.step, row.zero, got, row.want)
		}
	}
}

// wantValue says what the document says of Value.
func wantValue(s impl.Scale, q int) int {
	if !wantScaleOk(s) || !areBytesAll(ints(q)) {
		return 0
	}
	return int(product(s.Step, q-s.Zero).Int64())
}

func TestValueAgainstWords(t *testing.T) {
	for _, s := range append(goodScales(), wrongScales()...) {
		for q := -3; q < 260; q++ {
			if got, want := impl.Value(s, q), wantValue(s, q); got != want {
				t.Errorf("Value of %d by %v is %d, not %d", q, s, got, want)
			}
		}
		for _, q := range testInts() {
			if got, want := impl.Value(s, q), wantValue(s, q); got != want {
				t.Errorf("Value of %d by %v is %d, not %d", q, s, got, want)
			}
		}
	}
}

func TestValueRows(t *testing.T) {
	for _, row := range []struct{ step, zero, q, want int }{
		{10, 100, 102, 20}, {10, 100, 100, 0}, {10, 100, 0, -1000}, {10, 100, 255, 1550}, {10, 100, -1, 0}, {10, 100, 256, 0},
		{10, 100, math.MinInt, 0}, {10, 100, math.MaxInt, 0},
		{testReal, 0, 255, 255 * testReal}, {testReal, 255, 0, -255 * testReal}, {testReal, 255, 255, 0}, {1, 0, 0, 0},
		{0, 100, 102, 0}, {testReal + 1, 100, 102, 0}, {10, 256, 102, 0}, {10, -1, 102, 0},
	} {
		if got := impl.Value(scaleOf(row.step, row.zero), row.q); got != row.want {
			t.Errorf("Value of %d by Step %d, Zero %d is %d, not %d", row.q, row.step, row.zero, got, row.want)
		}
	}
}

// randomScale has a Step of any size up to most.
func randomScale(source *rand.Rand, most int) impl.Scale {
	return scaleOf(1+source.Intn(1+source.Intn(most)>>source.Intn(40)), source.Intn(256))
}

func randomReal(source *rand.Rand) int {
	return (source.Intn(2*testReal+1) - testReal) >> source.Intn(41)
}

func randomReals(source *rand.Rand, count int) []int {
	by := source.Intn(41)
	made := make([]int, count)
	for at := range made {
		made[at] = randomReal(source) >> by
	}
	return made
}

func distance(x int, y int) *big.Int {
	off := new(big.Int).Sub(wide(x), wide(y))
	return off.Abs(off)
}

// Of P34 the first half: twice what is off is at most a Step.
func TestValueOfQuantiseIsHalfAStepOff(t *testing.T) {
	source := rand.New(rand.NewSource(231))
	scales := goodScales()
	for range 300 {
		scales = append(scales, randomScale(source, testReal))
	}
	free, brought := 0, 0
	for _, s := range scales {
		for _, x := range append(realsFor(s, source), randomReals(source, 20)...) {
			if !areRealsAll(ints(x)) {
				continue
			}
			q := impl.Quantise(s, x)
			off := distance(x, impl.Value(s, q))
			if !isFree(freeByte(s, x)) {
				brought++
				if q != 0 && q != 255 {
					t.Fatalf("Quantise of %d by %v is %d", x, s, q)
				}
				continue
			}
			free++
			if off.Lsh(off, 1).Cmp(wide(s.Step)) > 0 {
				t.Fatalf("%d by %v is %d, which is worth %d", x, s, q, impl.Value(s, q))
			}
		}
	}
	if free < 10000 || brought < 10000 {
		t.Errorf("%d were free, %d brought into bounds", free, brought)
	}
}

func TestQuantiseOfValueIsTheByte(t *testing.T) {
	for _, s := range goodScales() {
		for q := range 256 {
			if x := impl.Value(s, q); areRealsAll(ints(x)) && impl.Quantise(s, x) != q {
				t.Errorf("Quantise of the Value of %d by %v is %d", q, s, impl.Quantise(s, x))
			}
		}
	}
}

// wantCalibrate says what the document says of Calibrate.
func wantCalibrate(xs []int) (impl.Scale, bool) {
	if len(xs) < 1 || len(xs) > 4096 || !areRealsAll(xs) {
		return impl.Scale{}, false
	}
	low, high := slices.Min(append(ints(0), xs...)), slices.Max(append(ints(0), xs...))
	step := 1
	for 255*step < high-low {
		// No Step below this one is enough either.
		step = max(step+1, (high-low)/255)
	}
	return scaleOf(step, wantNear(-low, step)), true
}

func checkCalibrate(t *testing.T, xs []int) (impl.Scale, bool) {
	t.Helper()
	s, ok := impl.Calibrate(xs)
	if want, wantOk := wantCalibrate(xs); s != want || ok != wantOk {
		t.Fatalf("Calibrate of %d reals %.200s is %v, %v, not %v, %v", len(xs), fmt.Sprint(xs), s, ok, want, wantOk)
	}
	if !ok {
		return s, false
	}
	if !impl.ScaleOk(s) {
		t.Fatalf("Calibrate of %.200s is %v, which is not ScaleOk", fmt.Sprint(xs), s)
	}
	// Of P34 the second half.
	for _, x := range xs {
		if off := distance(x, impl.Value(s, impl.Quantise(s, x))); off.Cmp(wide(s.Step)) > 0 {
			t.Fatalf("Calibrate of %.200s is %v: %d is off by %v", fmt.Sprint(xs), s, x, off)
		}
	}
	return s, true
}

func TestCalibrateKeepsAllWithinAStep(t *testing.T) {
	source := rand.New(rand.NewSource(232))
	for range 4000 {
		xs := randomReals(source, 1+source.Intn(12))
		switch source.Intn(4) {
		case 0:
			for at, x := range xs {
				xs[at] = max(x, -x)
			}
		case 1:
			for at, x := range xs {
				xs[at] = min(x, -x)
			}
		}
		if _, ok := checkCalibrate(t, xs); !ok {
			t.Fatalf("Calibrate of %v is false", xs)
		}
	}
	for low := -600; low <= 0; low += 7 {
		for high := 0; high <= 1100; high++ {
			checkCalibrate(t, ints(high, low))
		}
	}
	for high := testReal - 300; high <= testReal+2; high++ {
		checkCalibrate(t, ints(-testReal, high))
		checkCalibrate(t, ints(high))
		checkCalibrate(t, ints(-high))
	}
}

func TestCalibrateRows(t *testing.T) {
	for _, row := range []struct {
		xs         []int
		step, zero int
		ok         bool
	}{
		{ints(), 0, 0, false}, {nil, 0, 0, false},
		{ints(0), 1, 0, true}, {ints(0, 0, 0), 1, 0, true}, {ints(7), 1, 0, true}, {ints(-7), 1, 7, true}, {ints(3, -3), 1, 3, true},
		{ints(254), 1, 0, true}, {ints(255), 1, 0, true}, {ints(256), 2, 0, true}, {ints(510), 2, 0, true}, {ints(511), 3, 0, true},
		{ints(-254), 1, 254, true}, {ints(-255), 1, 255, true}, {ints(-256), 2, 128, true}, {ints(-510), 2, 255, true}, {ints(-511), 3, 170, true},
		{ints(-255, 255), 2, 128, true}, {ints(-255, 256), 3, 85, true}, {ints(-1, 509), 2, 0, true}, {ints(-3, 507), 2, 2, true}, {ints(-5, 505), 2, 2, true},
		// All above 0, all below 0: 0 is one of them.
		{ints(1000, 1001, 1002), 4, 0, true}, {ints(-1000, -1001, -1002), 4, 250, true}, {ints(-1020, -1019), 4, 255, true},
		{ints(testReal), 4311810306, 0, true}, {ints(-testReal), 4311810306, 255, true},
		{ints(-testReal, testReal), 8623620611, 127, true}, {ints(testReal, -testReal, 0), 8623620611, 127, true},
		{ints(testReal + 1), 0, 0, false}, {ints(-testReal - 1), 0, 0, false}, {ints(math.MaxInt), 0, 0, false}, {ints(math.MinInt), 0, 0, false},
		{ints(testReal+1, 1, 2), 0, 0, false}, {ints(1, 2, testReal+1), 0, 0, false}, {ints(-testReal-1, 1, 2), 0, 0, false}, {ints(1, 2, -testReal-1), 0, 0, false},
		{ints(1, math.MaxInt, 2), 0, 0, false}, {ints(1, math.MinInt, 2), 0, 0, false}, {ints(math.MinInt, math.MaxInt), 0, 0, false},
	} {
		if s, ok := checkCalibrate(t, row.xs); s != scaleOf(row.step, row.zero) || ok != row.ok {
			t.Errorf("Calibrate of %v is %v, %v", row.xs, s, ok)
		}
	}
}

func TestCalibrateAtMaxSize(t *testing.T) {
	many := noughts(4097)
	many[4095], many[4096] = -510, 5100
	if s, ok := checkCalibrate(t, many[:4096]); !ok || s != scaleOf(2, 255) {
		t.Errorf("Calibrate of just MaxSize is %v, %v", s, ok)
	}
	if s, ok := checkCalibrate(t, many); ok || s != (impl.Scale{}) {
		t.Errorf("Calibrate of more than MaxSize is %v, %v", s, ok)
	}
	for _, at := range ints(0, 2000, 4095) {
		if _, ok := checkCalibrate(t, replaced(many[:4096], at, testReal+1)); ok {
			t.Errorf("Calibrate with no real at %d is true", at)
		}
	}
}

// wantWorst says what the document says of Worst.
func wantWorst(s impl.Scale, xs []int) int {
	if !wantScaleOk(s) || len(xs) > 4096 || !areRealsAll(xs) {
		return 0
	}
	worst := new(big.Int)
	for _, x := range xs {
		if off := distance(x, wantValue(s, wantQuantise(s, x))); off.Cmp(worst) > 0 {
			worst = off
		}
	}
	return int(worst.Int64())
}

func TestWorstAgainstWords(t *testing.T) {
	source := rand.New(rand.NewSource(233))
	check := func(s impl.Scale, xs []int) {
		t.Helper()
		if got, want := impl.Worst(s, xs), wantWorst(s, xs); got != want {
			t.Fatalf("Worst of %v by %v is %d, not %d", xs, s, got, want)
		}
	}
	for _, s := range append(goodScales(), wrongScales()...) {
		for _, x := range realsFor(s, source) {
			check(s, ints(x))
			check(s, ints(0, x))
			check(s, ints(x, 1))
		}
	}
	for range 3000 {
		xs := randomReals(source, source.Intn(9))
		check(randomScale(source, testReal), xs)
		if s, ok := impl.Calibrate(xs); ok {
			check(s, xs)
			if impl.Worst(s, xs) > s.Step {
				t.Fatalf("Worst of %v by its own %v is %d", xs, s, impl.Worst(s, xs))
			}
		}
	}
}

func TestWorstRows(t *testing.T) {
	for _, row := range []struct {
		step, zero int
		xs         []int
		want       int
	}{
		{10, 100, ints(), 0}, {10, 100, nil, 0}, {10, 100, ints(0, 10, -20), 0}, {10, 100, ints(3, -4, 21), 4}, {10, 100, ints(-4, 3), 4}, {10, 100, ints(4, -3), 4},
		{10, 100, ints(5), 5}, {10, 100, ints(-5), 5}, {10, 100, ints(6), 4}, {10, 100, ints(-6), 4},
		// What is brought into bounds.
		{10, 100, ints(1550), 0}, {10, 100, ints(1570), 20}, {10, 100, ints(-1000), 0}, {10, 100, ints(-1234, 7), 234},
		{1, 0, ints(-testReal), testReal}, {1, 255, ints(testReal), testReal}, {1, 255, ints(-testReal), testReal - 255}, {1, 0, ints(testReal, 1), testReal - 255},
		{testReal, 0, ints(testReal / 2), testReal / 2}, {testReal, 0, ints(-testReal), testReal}, {testReal, 0, ints(testReal), 0},
		// Something is not so.
		{0, 100, ints(3), 0}, {10, 256, ints(3), 0}, {10, -1, ints(3), 0}, {testReal + 1, 100, ints(3), 0},
		{10, 100, ints(testReal+1, 3), 0}, {10, 100, ints(3, testReal+1), 0}, {10, 100, ints(3, -testReal-1), 0}, {10, 100, ints(math.MinInt, 3), 0}, {10, 100, ints(3, math.MaxInt), 0},
	} {
		if got := impl.Worst(scaleOf(row.step, row.zero), row.xs); got != row.want {
			t.Errorf("Worst of %v by Step %d, Zero %d is %d, not %d", row.xs, row.step, row.zero, got, row.want)
		}
	}
	many := noughts(4097)
	many[4095], many[4096] = 4, 3
	if got, more := impl.Worst(scaleOf(10, 100), many[:4096]), impl.Worst(scaleOf(10, 100), many); got != 4 || more != 0 {
		t.Errorf("Worst of just MaxSize is %d, of one more %d", got, more)
	}
}

// wantDot says what the document says of DotBytes.
func wantDot(a impl.Scale, b impl.Scale, p []int, q []int) int {
	if !wantScaleOk(a) || !wantScaleOk(b) || len(p) != len(q) || len(p) > 4096 || !areBytesAll(p) || !areBytesAll(q) {
		return 0
	}
	sum := new(big.Int)
	for at := range p {
		sum.Add(sum, product(p[at]-a.Zero, q[at]-b.Zero))
	}
	return int(sum.Int64())
}

func checkDot(t *testing.T, a impl.Scale, b impl.Scale, p []int, q []int) int {
	t.Helper()
	got := impl.DotBytes(a, b, p, q)
	if want := wantDot(a, b, p, q); got != want {
		t.Fatalf("DotBytes of %.200s and %.200s by %v and %v is %d, not %d", fmt.Sprint(p), fmt.Sprint(q), a, b, got, want)
	}
	return got
}

func randomBytes(source *rand.Rand, count int) []int {
	made := make([]int, count)
	for at := range made {
		made[at] = source.Intn(256)
		if source.Intn(6) == 0 {
			made[at] = 255 * source.Intn(2)
		}
	}
	return made
}

func TestDotBytesAgainstWords(t *testing.T) {
	source := rand.New(rand.NewSource(234))
	scales := append(goodScales(), wrongScales()...)
	for _, a := range scales {
		for _, b := range scales {
			count := source.Intn(6)
			p, q := randomBytes(source, count), randomBytes(source, count)
			checkDot(t, a, b, p, q)
			checkDot(t, a, b, p, append(q, 3))
			checkDot(t, a, b, append(p, 0), q)
		}
	}
	a, b := scaleOf(5, 100), scaleOf(7, 30)
	for _, wrong := range append(testInts(), ints(-1, 256, 0, 255)...) {
		for at := range 5 {
			p, q := randomBytes(source, 5), randomBytes(source, 5)
			checkDot(t, a, b, replaced(p, at, wrong), q)
			checkDot(t, a, b, p, replaced(q, at, wrong))
			checkDot(t, a, b, replaced(p, at, wrong), replaced(q, at, wrong))
		}
	}
}

func TestDotBytesRows(t *testing.T) {
	for _, row := range []struct {
		aZero, bZero int
		p, q         []int
		want         int
	}{
		{100, 50, ints(), ints(), 0}, {100, 50, nil, nil, 0}, {100, 50, ints(101), ints(53), 3}, {100, 50, ints(99), ints(53), -3}, {100, 50, ints(98, 101), ints(49, 60), 12},
		{0, 0, ints(255, 1), ints(255, 2), 65027}, {255, 255, ints(0, 254), ints(0, 254), 65026}, {0, 255, ints(255), ints(0), -65025}, {255, 0, ints(0), ints(255), -65025},
		{100, 50, ints(1, 2), ints(1), 0}, {100, 50, ints(1), ints(1, 2), 0}, {100, 50, ints(), ints(1), 0}, {100, 50, ints(1), ints(), 0},
		{100, 50, ints(-1, 1), ints(1, 1), 0}, {100, 50, ints(1, 256), ints(1, 1), 0}, {100, 50, ints(1, 1), ints(-1, 1), 0}, {100, 50, ints(1, 1), ints(1, 256), 0},
		{-1, 50, ints(1), ints(1), 0}, {256, 50, ints(1), ints(1), 0}, {100, -1, ints(1), ints(1), 0}, {100, 256, ints(1), ints(1), 0},
	} {
		if got := checkDot(t, scaleOf(3, row.aZero), scaleOf(4, row.bZero), row.p, row.q); got != row.want {
			t.Errorf("DotBytes of %v and %v with Zeros of %d and %d is %d", row.p, row.q, row.aZero, row.bZero, got)
		}
	}
	for _, s := range wrongScales() {
		if impl.DotBytes(s, scaleOf(1, 0), ints(2), ints(3)) != 0 || impl.DotBytes(scaleOf(1, 0), s, ints(2), ints(3)) != 0 {
			t.Errorf("DotBytes by %v", s)
		}
	}
}

func TestDotBytesAtMaxSize(t *testing.T) {
	most, none := slices.Repeat(ints(255), 4097), noughts(4097)
	for _, row := range []struct {
		aZero, bZero int
		p, q         []int
		want         int
	}{
		{0, 0, most, most, 4096 * 65025}, {255, 255, none, none, 4096 * 65025}, {0, 255, most, none, -4096 * 65025}, {255, 0, none, most, -4096 * 65025},
	} {
		a, b := scaleOf(testReal, row.aZero), scaleOf(testReal, row.bZero)
		if got := checkDot(t, a, b, row.p[:4096], row.q[:4096]); got != row.want {
			t.Errorf("DotBytes of just MaxSize is %d, not %d", got, row.want)
		}
		if got := checkDot(t, a, b, row.p, row.q); got != 0 {
			t.Errorf("DotBytes of more than MaxSize is %d", got)
		}
	}
}

// freeRequant is what Requant would give if nothing were brought into 0 .. 255.
func freeRequant(sum int, mult int, shift int, s impl.Scale) *big.Int {
	part := new(big.Rat).SetFrac(product(sum, mult), new(big.Int).Lsh(wide(1), uint(shift)))
	near := nearestInt(part)
	return near.Add(near, wide(s.Zero))
}

// wantRequant says what the document says of Requant.
func wantRequant(sum int, mult int, shift int, s impl.Scale) int {
	if !wantScaleOk(s) || sum < -testSum || sum > testSum || mult < 0 || mult > testMult || shift < 0 || shift > 62 {
		return 0
	}
	return broughtTo(freeRequant(sum, mult, shift, s), 0, 255)
}

func checkRequant(t *testing.T, sum int, mult int, shift int, s impl.Scale) int {
	t.Helper()
	got := impl.Requant(sum, mult, shift, s)
	if want := wantRequant(sum, mult, shift, s); got != want {
		t.Fatalf("Requant of %d by %d, %d, %v is %d, not %d", sum, mult, shift, s, got, want)
	}
	return got
}

func TestRequantAgainstWords(t *testing.T) {
	sums := ints(math.MinInt, -testSum-1, -testSum, 1-testSum, -7, -1, 0, 1, 2, 300, testSum-1, testSum, testSum+1, math.MaxInt)
	mults := ints(math.MinInt, -1, 0, 1, 2, 3, testSum, testMult-1, testMult, testMult+1, math.MaxInt)
	shifts := ints(math.MinInt, -1, 0, 1, 2, 30, 31, 32, 54, 60, 61, 62, 63, 64, math.MaxInt)
	scales := append(wrongScales(), scaleOf(1, 0), scaleOf(testReal, 255), scaleOf(10, 100), scaleOf(3, 101))
	for _, sum := range sums {
		for _, mult := range mults {
			for _, shift := range shifts {
				for _, s := range scales {
					checkRequant(t, sum, mult, shift, s)
				}
			}
		}
	}
}

func TestRequantOfRandom(t *testing.T) {
	source := rand.New(rand.NewSource(235))
	inside := 0
	for range 60000 {
		sum := (source.Intn(2*testSum+1) - testSum) >> source.Intn(31)
		mult := source.Intn(testMult+1) >> source.Intn(32)
		shift := source.Intn(63)
		if source.Intn(2) == 0 {
			// Such that what comes is most often a byte.
			shift = min(62, max(0, product(sum, mult).BitLen()-source.Intn(9)))
		}
		if got := checkRequant(t, sum, mult, shift, randomScale(source, testReal)); got > 0 && got < 255 {
			inside++
		}
	}
	if inside < 20000 {
		t.Errorf("only %d are within bounds", inside)
	}
}

func TestRequantRows(t *testing.T) {
	for _, row := range []struct{ sum, mult, shift, zero, want int }{
		{5, 3, 0, 100, 115}, {-5, 3, 0, 100, 85}, {0, 3, 0, 100, 100}, {5, 0, 0, 100, 100}, {5, 0, 62, 100, 100},
		// Halves.
		{5, 1, 1, 100, 102}, {7, 1, 1, 100, 104}, {-5, 1, 1, 100, 98}, {-7, 1, 1, 100, 96}, {1, 1, 1, 100, 100}, {-1, 1, 1, 100, 100}, {3, 1, 1, 101, 103}, {-3, 1, 1, 101, 99},
		// Least and greatest, and beyond.
		{testSum, testMult, 62, 100, 100}, {-testSum, testMult, 62, 100, 100}, {testSum, testMult, 61, 100, 101}, {-testSum, testMult, 61, 100, 99},
		{testSum, testMult, 60, 100, 102}, {testSum, testMult, 54, 100, 228}, {testSum, testMult, 53, 100, 255}, {-testSum, testMult, 54, 100, 0}, {-testSum, testMult, 55, 100, 36},
		{testSum, testMult, 0, 100, 255}, {-testSum, testMult, 0, 100, 0},
		{testSum + 1, testMult, 61, 100, 0}, {-testSum - 1, testMult, 61, 100, 0}, {testSum, testMult + 1, 61, 100, 0}, {testSum, -1, 61, 100, 0}, {1, -1, 0, 100, 0},
		{testSum, testMult, 63, 100, 0}, {testSum, testMult, -1, 100, 0}, {1, 1, 63, 100, 0}, {1, 1, -1, 100, 0},
		{math.MinInt, 1, 0, 100, 0}, {math.MaxInt, 1, 0, 100, 0}, {1, math.MinInt, 0, 100, 0}, {1, math.MaxInt, 0, 100, 0}, {1, 1, math.MinInt, 100, 0}, {1, 1, math.MaxInt, 100, 0},
		// Just on 0 and 255.
		{155, 1, 0, 100, 255}, {156, 1, 0, 100, 255}, {154, 1, 0, 100, 254}, {-100, 1, 0, 100, 0}, {-101, 1, 0, 100, 0}, {-99, 1, 0, 100, 1},
		{1, 1, 0, 256, 0}, {1, 1, 0, -1, 0}, {1, 1, 0, 0, 1}, {1, 1, 0, 255, 255},
	} {
		if got := checkRequant(t, row.sum, row.mult, row.shift, scaleOf(9, row.zero)); got != row.want {
			t.Errorf("Requant of %d by %d, %d and a Zero of %d is %d", row.sum, row.mult, row.shift, row.zero, got)
		}
	}
}

// allShort says whether all are scales with a Step of at most 2^24.
func allShort(list ...impl.Scale) bool {
	return !slices.ContainsFunc(list, func(s impl.Scale) bool { return !wantScaleOk(s) || s.Step > testStep })
}

// wantFactor says what the document says of Factor: it tries each shift.
func wantFactor(a impl.Scale, b impl.Scale, c impl.Scale) (int, int, bool) {
	if !allShort(a, b, c) {
		return 0, 0, false
	}
	r := new(big.Rat).SetFrac(product(a.Step, b.Step), product(65536, c.Step))
	most, greatest, found := 0, 0, false
	for shift := range 63 {
		mult := nearestInt(new(big.Rat).Mul(r, twoTo(shift)))
		if mult.Cmp(wide(testMult)) <= 0 {
			most, greatest, found = int(mult.Int64()), shift, true
		}
	}
	return most, greatest, found
}

func checkFactor(t *testing.T, a impl.Scale, b impl.Scale, c impl.Scale) (int, int, bool) {
	t.Helper()
	mult, shift, ok := impl.Factor(a, b, c)
	if wantMult, wantShift, wantOk := wantFactor(a, b, c); mult != wantMult || shift != wantShift || ok != wantOk {
		t.Fatalf("Factor of %v, %v, %v is %d, %d, %v, not %d, %d, %v", a, b, c, mult, shift, ok, wantMult, wantShift, wantOk)
	}
	return mult, shift, ok
}

func TestFactorAgainstWords(t *testing.T) {
	source := rand.New(rand.NewSource(236))
	seen := make([]int, 63)
	for range 6000 {
		if _, shift, ok := checkFactor(t, randomScale(source, testStep), randomScale(source, testStep), randomScale(source, testStep)); ok {
			seen[shift]++
		}
	}
	for high := range 25 {
		for low := range 25 {
			for _, off := range ints(-1, 0, 1) {
				a, b, c := scaleOf(min(1<<high+off, testStep), 1), scaleOf(testStep, 2), scaleOf(1<<low, 3)
				_, shift, ok := checkFactor(t, a, b, c)
				if ok {
					seen[shift]++
				}
				checkFactor(t, b, a, c)
				checkFactor(t, scaleOf(1, 9), c, a)
			}
		}
	}
	for shift, often := range seen {
		if often == 0 {
			t.Errorf("no shift was %d", shift)
		}
	}
}

func TestFactorRows(t *testing.T) {
	for _, row := range []struct {
		a, b, c     int
		mult, shift int
		ok          bool
	}{
		{256, 256, 1, testMult, 31, true}, {65536, 1, 1, testMult, 31, true}, {1, 65536, 2, testMult, 32, true}, {65536, 65536, 1, testMult, 15, true},
		{3, 1, 1, 3 << 29, 45, true}, {10, 20, 30, 1789569707, 44, true},
		// The least and the greatest fraction.
		{1, 1, testStep, 1 << 22, 62, true}, {1, 1, testStep - 1, 4194304, 62, true}, {testStep, testStep, 1, 0, 0, false}, {testStep, testStep, 2, testMult, 0, true}, {testStep, testStep, testStep, testMult, 23, true},
		// mult is above 2^31 even with shift 0, or just not.
		{testStep, testStep / 2, 1, testMult, 0, true}, {testStep, testStep/2 + 1, 1, 0, 0, false}, {testStep, testStep/2 - 1, 1, testMult - 256, 0, true},
		{10610063, 13264529, 1, testMult, 0, true}, {10502144, 13400834, 1, testMult, 0, true}, {8432887, 16689123, 1, 0, 0, false},
		// Shift 62 and just not.
		{1, 1, 32768, testMult, 62, true}, {1, 1, 32769, 2147418114, 62, true}, {1, 1, 32767, 1073774593, 61, true}, {2, 1, 32768, testMult, 61, true},
		// Rounding decides: what is half a one above 2^31 is brought down to it.
		{257, 16711935, 65536, testMult, 31, true}, {641, 6700417, 65536, testMult, 31, true}, {260, 16519105, 65536, 1073741825, 30, true}, {423, 10153587, 65536, 1073741825, 30, true}, {1277, 3363326, 65536, 1073741826, 30, true},
		// Halves to the even one.
		{65535, 65535, 65536, 2147418112, 31, true}, {65535, 65533, 65536, 2147352578, 31, true},
	} {
		a, b, c := scaleOf(row.a, 1), scaleOf(row.b, 255), scaleOf(row.c, 0)
		if mult, shift, ok := checkFactor(t, a, b, c); mult != row.mult || shift != row.shift || ok != row.ok {
			t.Errorf("Factor of %d, %d, %d is %d, %d, %v", row.a, row.b, row.c, mult, shift, ok)
		}
		if mult, shift, ok := checkFactor(t, b, a, c); mult != row.mult || shift != row.shift || ok != row.ok {
			t.Errorf("Factor of %d, %d, %d is %d, %d, %v", row.b, row.a, row.c, mult, shift, ok)
		}
	}
}

// inEachPlace gives lists of three scales with s in one place, and others that
// are right in the others.
func inEachPlace(s impl.Scale) [][3]impl.Scale {
	right := scaleOf(300, 100)
	return [][3]impl.Scale{{s, right, right}, {right, s, right}, {right, right, s}, {s, s, s}}
}

func tooLongSteps() []impl.Scale {
	return []impl.Scale{scaleOf(testStep+1, 100), scaleOf(testStep+1, 0), scaleOf(2*testStep, 1), scaleOf(testReal, 255)}
}

func TestFactorOfWrongScales(t *testing.T) {
	for _, s := range append(wrongScales(), tooLongSteps()...) {
		for _, three := range inEachPlace(s) {
			if mult, shift, ok := checkFactor(t, three[0], three[1], three[2]); mult != 0 || shift != 0 || ok {
				t.Errorf("Factor of %v is %d, %d, %v", three, mult, shift, ok)
			}
		}
	}
	for _, three := range inEachPlace(scaleOf(testStep, 255))[:3] {
		if _, _, ok := checkFactor(t, three[0], three[1], three[2]); !ok {
			t.Errorf("Factor of %v is false", three)
		}
	}
}

// A matCase is what MatBytes is given.
type matCase struct {
	x    []int
	n    int
	a    impl.Scale
	w    []int
	m    int
	b    impl.Scale
	bias []int
	c    impl.Scale
}

func (k matCase) bytes() []int { return impl.MatBytes(k.x, k.n, k.a, k.w, k.m, k.b, k.bias, k.c) }

func (k matCase) String() string {
	return fmt.Sprintf("x %.150s (%d) n %d a %v w %.150s (%d) m %d b %v bias %.150s (%d) c %v", fmt.Sprint(k.x), len(k.x), k.n, k.a, fmt.Sprint(k.w), len(k.w), k.m, k.b, fmt.Sprint(k.bias), len(k.bias), k.c)
}

// fits says whether all is as the document wants it of MatBytes.
func (k matCase) fits() bool {
	if k.n < 1 || k.n > 4096 || k.m < 1 || k.m > 4096 || len(k.x) > 4096 || len(k.w) > 4096 {
		return false
	}
	if len(k.x)%k.n != 0 || len(k.w) != k.m*k.n || len(k.bias) != k.m {
		return false
	}
	rows := len(k.x) / k.n
	if rows*k.m > 4096 || rows*k.m*k.n > 65536 || !areBytesAll(k.x) || !areBytesAll(k.w) {
		return false
	}
	return !slices.ContainsFunc(k.bias, func(x int) bool { return x < -testSum || x > testSum })
}

// free is what each byte would be if none were brought into 0 .. 255, row by
// row.
func (k matCase) free(mult int, shift int) []*big.Int {
	made := []*big.Int{}
	for row := range slices.Chunk(k.x, k.n) {
		for j := range k.m {
			sum := wantDot(k.a, k.b, row, k.w[j*k.n:(j+1)*k.n]) + k.bias[j]
			made = append(made, freeRequant(broughtTo(wide(sum), -testSum, testSum), mult, shift, k.c))
		}
	}
	return made
}

// want says what the document says of MatBytes.
func (k matCase) want() []int {
	mult, shift, ok := wantFactor(k.a, k.b, k.c)
	made := []int{}
	if !ok || !k.fits() {
		return made
	}
	for _, q := range k.free(mult, shift) {
		made = append(made, broughtTo(q, 0, 255))
	}
	return made
}

func checkMat(t *testing.T, k matCase) []int {
	t.Helper()
	got := k.bytes()
	if want := k.want(); !slices.Equal(got, want) {
		t.Fatalf("MatBytes of %v is %.200s, not %.200s", k, fmt.Sprint(got), fmt.Sprint(want))
	}
	return got
}

// matOf is of so many rows of n and m rows of n, with bytes that differ.
func matOf(rows int, n int, m int) matCase {
	k := matCase{n: n, m: m, a: scaleOf(300, 100), b: scaleOf(200, 50), c: scaleOf(5000, 120), x: make([]int, rows*n), w: make([]int, m*n), bias: make([]int, m)}
	for at := range k.x {
		k.x[at] = (7*at + 3) % 256
	}
	for at := range k.w {
		k.w[at] = (5*at + 11) % 256
	}
	for at := range k.bias {
		k.bias[at] = 100*at - 50
	}
	return k
}

func TestMatBytesRows(t *testing.T) {
	one := scaleOf(256, 100)
	k := matCase{x: ints(101, 102, 99, 100, 100, 103), n: 2, a: one, w: ints(51, 53, 50, 40), m: 2, b: scaleOf(256, 50), bias: ints(0, 5), c: scaleOf(1, 80)}
	// Row by row: 1 * 1 + 2 * 3, 1 * 0 - 2 * 10 + 5; -1 * 1, 0 + 5; 3 * 3, -3 * 10 + 5.
	if got := checkMat(t, k); !slices.Equal(got, ints(87, 65, 79, 85, 89, 55)) {
		t.Errorf("MatBytes is %v", got)
	}
	k.c.Step = 2
	// Halves go to the even number of Steps.
	if got := checkMat(t, k); !slices.Equal(got, ints(84, 72, 80, 82, 84, 68)) {
		t.Errorf("MatBytes is %v", got)
	}
	k.bias = ints(1000, -1000)
	if got := checkMat(t, k); !slices.Equal(got, ints(255, 0, 255, 0, 255, 0)) {
		t.Errorf("MatBytes is %v", got)
	}
	k.bias = ints(151, -160)
	k.c.Step = 1
	k.x = ints(100, 100)
	if got := checkMat(t, k); !slices.Equal(got, ints(231, 0)) {
		t.Errorf("MatBytes is %v", got)
	}
}

func randomMat(source *rand.Rand) matCase {
	rows, n, m := source.Intn(5), 1+source.Intn(8), 1+source.Intn(5)
	k := matCase{
		x: randomBytes(source, rows*n), n: n, a: randomScale(source, testStep),
		w: randomBytes(source, m*n), m: m, b: randomScale(source, testStep),
		bias: make([]int, m), c: randomScale(source, testStep),
	}
	for at := range k.bias {
		k.bias[at] = (source.Intn(2*testSum+1) - testSum) >> source.Intn(31)
	}
	if source.Intn(2) == 0 {
		// So that the outcome is most often within bounds.
		k.c.Step = min(testStep, max(1, k.a.Step*k.b.Step/65536*(1+source.Intn(2000))))
	}
	return k
}

func TestMatBytesAgainstWords(t *testing.T) {
	source := rand.New(rand.NewSource(237))
	inside := 0
	for range 6000 {
		for _, q := range checkMat(t, randomMat(source)) {
			if q > 0 && q < 255 {
				inside++
			}
		}
	}
	if inside < 10000 {
		t.Errorf("only %d bytes are within bounds", inside)
	}
}

func TestMatBytesOfWrongSizes(t *testing.T) {
	good := matOf(3, 4, 2)
	if len(checkMat(t, good)) != 6 {
		t.Fatal("of what is right comes nothing")
	}
	for _, x := range ints(0, -1, -4, 1, 3, 5, 6, 12, 4095, 4096, 4097, 1<<32, 1<<62, 1<<63-1, math.MaxInt-1, math.MinInt, math.MinInt+1) {
		k := good
		k.n = x
		if got := checkMat(t, k); len(got) != 0 {
			t.Errorf("MatBytes with n %d is %v", x, got)
		}
		k = good
		k.m = x
		if got := checkMat(t, k); len(got) != 0 {
			t.Errorf("MatBytes with m %d is %v", x, got)
		}
		k.n = x
		checkMat(t, k)
		for _, empty := range []matCase{{n: x, m: x, a: good.a, b: good.b, c: good.c}, {n: x, m: 1, a: good.a, b: good.b, c: good.c}, {n: 1, m: x, a: good.a, b: good.b, c: good.c}} {
			if got := checkMat(t, empty); len(got) != 0 {
				t.Errorf("MatBytes of %v is %v", empty, got)
			}
		}
	}
	for _, change := range []func(k *matCase){
		func(k *matCase) { k.x = ints() }, func(k *matCase) { k.x = nil }, func(k *matCase) { k.x = k.x[:11] }, func(k *matCase) { k.x = append(k.x, 1) }, func(k *matCase) { k.x = k.x[:3] },
		func(k *matCase) { k.w = k.w[:7] }, func(k *matCase) { k.w = k.w[:4] }, func(k *matCase) { k.w = ints() }, func(k *matCase) { k.w = append(k.w, 1) }, func(k *matCase) { k.w = append(k.w, 1, 2, 3, 4) },
		func(k *matCase) { k.bias = k.bias[:1] }, func(k *matCase) { k.bias = ints() }, func(k *matCase) { k.bias = append(k.bias, 1) },
		func(k *matCase) { k.n, k.m = 2, 4 }, func(k *matCase) { k.n, k.m = -4, -2 },
	} {
		k := matOf(3, 4, 2)
		change(&k)
		if got := checkMat(t, k); len(got) != 0 {
			t.Errorf("MatBytes of %v is %v", k, got)
		}
	}
}

func TestMatBytesOfWrongNumbers(t *testing.T) {
	for _, wrong := range ints(-1, 256, 1000, math.MinInt, math.MaxInt, 256+1<<32, -256) {
		for at := range 12 {
			k := matOf(3, 4, 2)
			k.x[at] = wrong
			if got := checkMat(t, k); len(got) != 0 {
				t.Errorf("MatBytes with %d at %d of x is %v", wrong, at, got)
			}
		}
		for at := range 8 {
			k := matOf(3, 4, 2)
			k.w[at] = wrong
			if got := checkMat(t, k); len(got) != 0 {
				t.Errorf("MatBytes with %d at %d of w is %v", wrong, at, got)
			}
		}
	}
	for _, row := range []struct {
		bias int
		ok   bool
	}{
		{testSum, true}, {testSum + 1, false}, {-testSum, true}, {-testSum - 1, false}, {math.MaxInt, false}, {math.MinInt, false}, {0, true},
	} {
		for at := range 2 {
			k := matOf(3, 4, 2)
			k.bias[at] = row.bias
			if got := checkMat(t, k); (len(got) == 6) != row.ok {
				t.Errorf("MatBytes with a bias of %d is %v", row.bias, got)
			}
		}
	}
}

func TestMatBytesOfWrongScales(t *testing.T) {
	for _, s := range append(wrongScales(), tooLongSteps()...) {
		for _, three := range inEachPlace(s) {
			k := matOf(3, 4, 2)
			k.a, k.b, k.c = three[0], three[1], three[2]
			if got := checkMat(t, k); len(got) != 0 {
				t.Errorf("MatBytes by %v is %v", three, got)
			}
		}
	}
	k := matOf(3, 4, 2)
	k.a, k.b, k.c = scaleOf(testStep, 100), scaleOf(testStep/2, 50), scaleOf(1, 7)
	if got := checkMat(t, k); len(got) != 6 {
		t.Errorf("MatBytes with the greatest Factor is %v", got)
	}
	k.b.Step++
	if got := checkMat(t, k); len(got) != 0 {
		t.Errorf("MatBytes where Factor is false is %v", got)
	}
}

func TestMatBytesAtLimits(t *testing.T) {
	for _, row := range []struct {
		rows, n, m int
		ok         bool
	}{
		// One of x, w and the outcome is just MaxSize, or one more, or more.
		{1, 4096, 1, true}, {1, 4097, 1, false}, {1, 1, 4096, true}, {1, 1, 4097, false}, {4096, 1, 1, true}, {4097, 1, 1, false},
		{2, 2048, 1, true}, {2, 2049, 1, false}, {1, 2048, 2, true}, {1, 2049, 2, false}, {64, 1, 64, true}, {65, 1, 64, false}, {17, 1, 241, false}, {2, 1, 4096, false}, {4096, 1, 2, false}, {4096, 1, 16, false},
		// The products are just MaxWork, or more.
		{64, 16, 64, true}, {64, 17, 64, false}, {16, 64, 64, true}, {64, 64, 16, true}, {32, 64, 32, true}, {20, 113, 29, false}, {64, 64, 64, false}, {16, 256, 16, true}, {8, 512, 8, true}, {7, 585, 7, true},
	} {
		k := matOf(row.rows, row.n, row.m)
		if got := checkMat(t, k); (len(got) == row.rows*row.m) != row.ok || !row.ok && len(got) != 0 {
			t.Errorf("MatBytes of %d rows of %d by %d gives %d bytes", row.rows, row.n, row.m, len(got))
		}
	}
}

// Sums beyond 2^30 are brought there: 2^30 is 64 Steps of the outcome here, and
// the greatest sum of products nearly 16 more.
func TestMatBytesBringsSumsIntoBounds(t *testing.T) {
	far := 255 * 255 * 4096
	for _, row := range []struct{ p, zero, bias, want int }{
		{255, 0, 0, 116}, {255, 0, testSum, 164}, {255, 0, testSum - far, 164}, {255, 0, testSum - far - 1<<24, 163}, {255, 0, testSum - 1, 164}, {0, 0, testSum, 164},
		{0, 255, 0, 84}, {0, 255, -testSum, 36}, {0, 255, far - testSum, 36}, {0, 255, far - testSum + 1<<24, 37}, {0, 255, 1 - testSum, 36}, {255, 255, -testSum, 36},
		{255, 0, -testSum, 52}, {0, 255, testSum, 148},
	} {
		k := matCase{x: slices.Repeat(ints(row.p), 4096), n: 4096, a: scaleOf(1, row.zero), w: slices.Repeat(ints(255), 4096), m: 1, b: scaleOf(1, 0), bias: ints(row.bias), c: scaleOf(256, 100)}
		if got := checkMat(t, k); !slices.Equal(got, ints(row.want)) {
			t.Errorf("MatBytes of %d with a Zero of %d and a bias of %d is %v, not %d", row.p, row.zero, row.bias, got, row.want)
		}
	}
}

// wantBound says what the document says of Bound.
func wantBound(n int, a impl.Scale, b impl.Scale, c impl.Scale, p int, q int) int {
	if n < 1 || n > 4096 || p < 0 || p > testStep || q < 0 || q > testStep || !allShort(a, b, c) {
		return 0
	}
	all := product(p, b.Step+1)
	all.Add(all, product(q, a.Step+1))
	all.Add(all, product(a.Step+1, b.Step+1))
	whole, rest := new(big.Int).QuoRem(all.Mul(all, wide(n)), wide(65536), new(big.Int))
	if rest.Sign() > 0 {
		whole.Add(whole, wide(1))
	}
	whole.Add(whole, wide(2*c.Step+2))
	if !whole.IsInt64() {
		panic("beyond an int")
	}
	return int(whole.Int64())
}

func checkBound(t *testing.T, n int, a impl.Scale, b impl.Scale, c impl.Scale, p int, q int) int {
	t.Helper()
	got := impl.Bound(n, a, b, c, p, q)
	if want := wantBound(n, a, b, c, p, q); got != want {
		t.Fatalf("Bound of %d, %v, %v, %v, %d, %d is %d, not %d", n, a, b, c, p, q, got, want)
	}
	return got
}

func TestBoundAgainstWords(t *testing.T) {
	source := rand.New(rand.NewSource(238))
	sizes := ints(math.MinInt, -1, 0, 1, 2, 65535, 65536, testStep-1, testStep, testStep+1, math.MaxInt)
	steps := ints(0, 1, 2, 65535, testStep-1, testStep, testStep+1, testReal)
	for _, n := range ints(math.MinInt, -1, 0, 1, 2, 4095, 4096, 4097, math.MaxInt) {
		for _, p := range sizes {
			for _, q := range sizes {
				for _, a := range steps {
					for _, b := range steps {
						checkBound(t, n, scaleOf(a, 0), scaleOf(b, 255), scaleOf(1+source.Intn(testStep), 7), p, q)
					}
				}
			}
		}
	}
	for range 20000 {
		p, q := source.Intn(testStep+1)>>source.Intn(25), source.Intn(testStep+1)>>source.Intn(25)
		checkBound(t, 1+source.Intn(4096), randomScale(source, testStep), randomScale(source, testStep), randomScale(source, testStep), p, q)
	}
}

func TestBoundRows(t *testing.T) {
	for _, row := range []struct{ n, a, b, c, p, q, want int }{
		{1, 1, 1, 1, 0, 0, 5}, {1, 255, 255, 1, 0, 0, 5}, {1, 255, 256, 1, 0, 0, 6}, {1, 255, 255, 1, 1, 0, 6}, {1, 255, 255, 1, 0, 1, 6}, {1, 255, 255, 10, 256, 0, 24},
		{1, 65535, 1, 1, 0, 0, 6}, {2, 65535, 1, 1, 0, 0, 8}, {4096, 1, 1, 1, 0, 0, 5}, {4096, 3, 3, 1, 0, 0, 5}, {4096, 3, 3, 1, 1, 0, 6}, {4096, 3, 3, 1, 0, 1, 6}, {4096, 3, 4, 1, 0, 0, 6},
		{1, 1, 3, 1, 16384, 0, 6}, {1, 3, 1, 1, 16382, 0, 5}, {1, 1, 3, 1, 0, 16384, 5},
		{3, 10, 20, 30, 400, 500, 63},
		// The greatest of all.
		{4096, testStep, testStep, testStep, testStep, testStep, 52776595881987},
		{1, testStep, 1, 1, 0, 0, 517}, {1, 1, testStep, 1, 0, 0, 517}, {1, 1, 1, testStep, 0, 0, 2*testStep + 3},
		{1, 1, 1, 1, testStep, 0, 517}, {1, 1, 1, 1, 0, testStep, 517},
		{0, 1, 1, 1, 0, 0, 0}, {-1, 1, 1, 1, 0, 0, 0}, {4097, 1, 1, 1, 0, 0, 0}, {1, testStep + 1, 1, 1, 0, 0, 0}, {1, 1, testStep + 1, 1, 0, 0, 0}, {1, 1, 1, testStep + 1, 0, 0, 0},
		{1, 1, 1, 1, testStep + 1, 0, 0}, {1, 1, 1, 1, 0, testStep + 1, 0}, {1, 1, 1, 1, -1, 0, 0}, {1, 1, 1, 1, 0, -1, 0}, {1, 0, 1, 1, 0, 0, 0}, {1, 1, 0, 1, 0, 0, 0}, {1, 1, 1, 0, 0, 0, 0},
	} {
		if got := checkBound(t, row.n, scaleOf(row.a, 0), scaleOf(row.b, 100), scaleOf(row.c, 255), row.p, row.q); got != row.want {
			t.Errorf("Bound of %v is %d", row, got)
		}
	}
	for _, s := range append(wrongScales(), tooLongSteps()...) {
		for _, three := range inEachPlace(s) {
			if got := checkBound(t, 3, three[0], three[1], three[2], 5, 6); got != 0 {
				t.Errorf("Bound by %v is %d", three, got)
			}
		}
	}
}

// realsBy are reals of at most 2^24 in size that a scale does not bring into
// bounds, some of them half a Step off.
func realsBy(source *rand.Rand, s impl.Scale, count int) []int {
	made := make([]int, count)
	for at := range made {
		x := s.Step*(source.Intn(256)-s.Zero) + source.Intn(s.Step+1) - s.Step/2
		switch source.Intn(4) {
		case 0:
			x = s.Step*(source.Intn(256)-s.Zero) + s.Step/2
		case 1:
			x >>= source.Intn(8)
		}
		if x < -testStep || x > testStep || !isFree(freeByte(s, x)) {
			x = 0
		}
		made[at] = x
	}
	return made
}

func quantised(s impl.Scale, xs []int) []int {
	made := make([]int, len(xs))
	for at, x := range xs {
		made[at] = impl.Quantise(s, x)
	}
	return made
}

func sizeOf(xs []int) int {
	size := 0
	for _, x := range xs {
		size = max(size, x, -x)
	}
	return size
}

// exactProducts are the products of rows of reals, row by row, in the units of
// reals.
func exactProducts(x []int, w []int, n int) []*big.Rat {
	made := []*big.Rat{}
	for row := range slices.Chunk(x, n) {
		for other := range slices.Chunk(w, n) {
			sum := new(big.Int)
			for at := range row {
				sum.Add(sum, product(row[at], other[at]))
			}
			made = append(made, new(big.Rat).SetFrac(sum, wide(65536)))
		}
	}
	return made
}

// outcomeScale is one by which most of the outcome is within bounds.
func outcomeScale(source *rand.Rand, exact []*big.Rat) impl.Scale {
	most := new(big.Rat)
	for _, x := range exact {
		if size := new(big.Rat).Abs(x); size.Cmp(most) > 0 {
			most = size
		}
	}
	whole := new(big.Int).Quo(most.Num(), most.Denom())
	step := broughtTo(whole.Quo(whole, wide(50+source.Intn(200))), 1, testStep)
	return scaleOf(step+source.Intn(1+min(step, testStep-step)), 100+source.Intn(56))
}

// checkWithinBound holds P35 at each byte that was not brought into bounds, and
// tells how many they are.
func checkWithinBound(t *testing.T, k matCase, x []int, w []int) int {
	t.Helper()
	got := checkMat(t, k)
	if len(got) == 0 {
		return 0
	}
	mult, shift, _ := wantFactor(k.a, k.b, k.c)
	free, exact := k.free(mult, shift), exactProducts(x, w, k.n)
	bound := new(big.Rat).SetInt(wide(impl.Bound(k.n, k.a, k.b, k.c, sizeOf(x), sizeOf(w))))
	held := 0
	for at, q := range got {
		if !isFree(free[at]) {
			continue
		}
		held++
		off := new(big.Rat).SetInt(wide(impl.Value(k.c, q)))
		if off.Sub(off, exact[at]); off.Abs(off).Cmp(bound) > 0 {
			t.Fatalf("MatBytes of %v: byte %d, which is %d, is off by %v, beyond %v", k, at, q, off.FloatString(3), bound.FloatString(0))
		}
	}
	return held
}

func TestMatBytesIsWithinBound(t *testing.T) {
	source := rand.New(rand.NewSource(239))
	held := 0
	for range 4000 {
		rows, n, m := 1+source.Intn(4), 1+source.Intn(12), 1+source.Intn(4)
		a, b := randomScale(source, testStep), randomScale(source, testStep)
		x, w := realsBy(source, a, rows*n), realsBy(source, b, m*n)
		c := outcomeScale(source, exactProducts(x, w, n))
		held += checkWithinBound(t, matCase{x: quantised(a, x), n: n, a: a, w: quantised(b, w), m: m, b: b, bias: noughts(m), c: c}, x, w)
	}
	if held < 15000 {
		t.Errorf("only %d bytes were held against Bound", held)
	}
}

func TestMatBytesOfCalibratedIsWithinBound(t *testing.T) {
	source := rand.New(rand.NewSource(240))
	held := 0
	for range 1500 {
		rows, n, m := 1+source.Intn(4), 1+source.Intn(30), 1+source.Intn(4)
		by := 15 + source.Intn(10)
		x, w := make([]int, rows*n), make([]int, m*n)
		for at := range x {
			x[at] = (source.Intn(2*testStep+1) - testStep) >> by
		}
		for at := range w {
			w[at] = source.Intn(testStep+1) >> (40 - by)
		}
		a, _ := impl.Calibrate(x)
		b, _ := impl.Calibrate(w)
		brought := func(s impl.Scale, xs []int) bool {
			return slices.ContainsFunc(xs, func(x int) bool { return !isFree(freeByte(s, x)) })
		}
		if brought(a, x) || brought(b, w) {
			continue
		}
		c := outcomeScale(source, exactProducts(x, w, n))
		held += checkWithinBound(t, matCase{x: quantised(a, x), n: n, a: a, w: quantised(b, w), m: m, b: b, bias: noughts(m), c: c}, x, w)
	}
	if held < 3000 {
		t.Errorf("only %d bytes were held against Bound", held)
	}
}

// All are half a Step off, to the same side, as far as that goes.
func TestMatBytesAtWorstIsWithinBound(t *testing.T) {
	held := 0
	for _, step := range ints(2, 3, 4, 100, 1000, 65536, 131072) {
		for _, other := range ints(2, 6, 100, 4098, 65536) {
			for _, n := range ints(1, 2, 7, 256) {
				for _, far := range ints(-100, -3, 0, 1, 2, 3, 101) {
					x := slices.Repeat(ints(step*far+step/2), n)
					w := slices.Repeat(ints(other*far+other/2), n)
					a, b := scaleOf(step, 120), scaleOf(other, 121)
					for _, c := range ints(1, 2, 50, 1000, 65536, testStep) {
						k := matCase{x: quantised(a, x), n: n, a: a, w: quantised(b, w), m: 1, b: b, bias: ints(0), c: scaleOf(c, 100)}
						held += checkWithinBound(t, k, x, w)
					}
				}
			}
		}
	}
	if held < 2000 {
		t.Errorf("only %d bytes were held against Bound", held)
	}
}

func TestSmallNumberListsAreLeftAlone(t *testing.T) {
	source := rand.New(rand.NewSource(241))
	for range 300 {
		xs := withRooms(randomReals(source, source.Intn(9)))
		if source.Intn(5) == 0 {
			xs = withRooms(append(xs, testReal+1))
		}
		s := randomScale(source, testReal)
		checkLeftAlone(t, "Calibrate", func() impl.Scale { made, _ := impl.Calibrate(xs); return made }, xs)
		checkLeftAlone(t, "Worst", func() int { return impl.Worst(s, xs) }, xs)
		k := withMatRooms(randomMat(source))
		if source.Intn(5) == 0 {
			k.m++
		}
		checkLeftAlone(t, "MatBytes", k.bytes, k.x, k.w, k.bias)
		checkLeftAlone(t, "DotBytes", func() int { return impl.DotBytes(k.a, k.b, k.x, k.w) }, k.x, k.w)
		checkLeftAlone(t, "DotBytes", func() int { return impl.DotBytes(k.a, k.b, k.w, k.w) }, k.w)
	}
	// One list may stand in several places.
	same := withRooms(ints(1, 2, 3, 4))
	checkLeftAlone(t, "MatBytes", func() []int {
		return impl.MatBytes(same, 1, scaleOf(300, 0), same, 4, scaleOf(400, 0), same, scaleOf(9, 2))
	}, same)
}

func withMatRooms(k matCase) matCase {
	k.x, k.w, k.bias = withRooms(k.x), withRooms(k.w), withRooms(k.bias)
	return k
}

func TestRoomBehindSmallNumberListsIsNotRead(t *testing.T) {
	xs := ints(3, -4, 255000, math.MaxInt)
	if s, ok := checkCalibrate(t, xs[:2]); !ok || s != scaleOf(1, 4) {
		t.Errorf("Calibrate has read behind the list: %v, %v", s, ok)
	}
	if got := impl.Worst(scaleOf(10, 100), xs[:2]); got != 4 {
		t.Errorf("Worst has read behind the list: %d", got)
	}
	p, q := ints(101, 102, 999), ints(3, 4, -1)
	if got := checkDot(t, scaleOf(1, 100), scaleOf(1, 0), p[:2], q[:2]); got != 11 {
		t.Errorf("DotBytes has read behind a list: %d", got)
	}
	k, plain := matOf(4, 4, 3), matOf(3, 4, 2)
	k.x, k.w, k.bias, k.m = k.x[:12], k.w[:8], k.bias[:2], 2
	if got := checkMat(t, k); !slices.Equal(got, plain.bytes()) {
		t.Errorf("MatBytes has read behind a list: %v", got)
	}
	k.w = k.w[:7]
	if got := checkMat(t, k); len(got) != 0 {
		t.Errorf("MatBytes has read behind w: %v", got)
	}
}

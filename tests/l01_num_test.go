package tests

import (
	"math"
	"math/big"
	"math/rand"
	"strconv"
	"strings"
	"testing"

	"loop.example/g00033/impl"
)

// edgeInts are the ints at which modular arithmetic is easiest to get wrong.
func edgeInts() []int {
	return []int{
		math.MinInt, math.MinInt + 1, -2*impl.Prime - 1, -2 * impl.Prime,
		-impl.Prime - 1, -impl.Prime, -impl.Prime + 1,
		-impl.MaxPart - 1, -impl.MaxPart, -3, -2, -1, 0, 1, 2, 3,
		impl.MaxPart, impl.MaxPart + 1,
		(impl.Prime - 1) / 2, (impl.Prime-1)/2 + 1,
		impl.Prime - 1, impl.Prime, impl.Prime + 1, 2 * impl.Prime,
		math.MaxInt - 1, math.MaxInt,
	}
}

func someInts(count int, seed int64) []int {
	source := rand.New(rand.NewSource(seed))
	out := make([]int, count)
	for i := range out {
		out[i] = int(source.Uint64()) >> source.Intn(63)
	}
	return out
}

func testInts() []int { return append(edgeInts(), someInts(40, 1)...) }

// exact brings a whole number of any size into 0 .. Prime - 1.
func exact(x *big.Int) int {
	return int(new(big.Int).Mod(x, big.NewInt(impl.Prime)).Int64())
}

func wide(x int) *big.Int { return big.NewInt(int64(x)) }

// searchFrac tries each Den in turn: slow, but with nothing to get wrong.
func searchFrac(a int) (impl.Frac, bool) {
	for den := 1; den <= impl.MaxPart; den++ {
		num := exact(new(big.Int).Mul(wide(a), wide(den)))
		if num > impl.Prime/2 {
			num -= impl.Prime
		}
		if num >= -impl.MaxPart && num <= impl.MaxPart && divisor(num, den) == 1 {
			return impl.Frac{Num: num, Den: den}, true
		}
	}
	return impl.Frac{}, false
}

func divisor(a int, b int) int {
	return int(new(big.Int).GCD(nil, nil, new(big.Int).Abs(wide(a)), wide(b)).Int64())
}

// someFracs are fractions that can be: those at the edges, and others.
func someFracs(count int, seed int64) []impl.Frac {
	out := []impl.Frac{
		{Num: 0, Den: 1}, {Num: 1, Den: 1}, {Num: -1, Den: 1},
		{Num: impl.MaxPart, Den: 1}, {Num: -impl.MaxPart, Den: 1},
		{Num: 1, Den: impl.MaxPart}, {Num: -1, Den: impl.MaxPart},
		{Num: impl.MaxPart, Den: impl.MaxPart - 1}, {Num: -impl.MaxPart, Den: impl.MaxPart - 1},
		{Num: impl.MaxPart - 1, Den: impl.MaxPart}, {Num: 1 - impl.MaxPart, Den: impl.MaxPart},
		{Num: 1, Den: 2}, {Num: -1, Den: 2}, {Num: 1, Den: 3}, {Num: -7, Den: 12},
	}
	source := rand.New(rand.NewSource(seed))
	for len(out) < count {
		most := 1 + source.Intn(impl.MaxPart)
		num := source.Intn(2*most+1) - most
		den := 1 + source.Intn(most)
		common := divisor(num, den)
		out = append(out, impl.Frac{Num: num / common, Den: den / common})
	}
	return out
}

// fracOf is the Frac of an exact fraction, and whether it can be one.
func fracOf(r *big.Rat) (impl.Frac, bool) {
	num, den := r.Num(), r.Denom()
	most := big.NewInt(impl.MaxPart)
	if num.CmpAbs(most) > 0 || den.Cmp(most) > 0 {
		return impl.Frac{}, false
	}
	return impl.Frac{Num: int(num.Int64()), Den: int(den.Int64())}, true
}

func TestNumLimits(t *testing.T) {
	if impl.Prime != 2147483647 || impl.MaxPower != 1000000 || impl.MaxPart != 32767 {
		t.Error("a limit is another than the document's")
	}
}

func TestMod(t *testing.T) {
	for _, x := range testInts() {
		if got, want := impl.Mod(x), exact(wide(x)); got != want {
			t.Errorf("Mod(%d) = %d, not %d", x, got, want)
		}
	}
}

// P1: against whole numbers of any size, at ints of any size.
func TestSumsDifferencesProducts(t *testing.T) {
	for _, a := range testInts() {
		for _, b := range testInts() {
			if got, want := impl.Plus(a, b), exact(new(big.Int).Add(wide(a), wide(b))); got != want {
				t.Errorf("Plus(%d, %d) = %d, not %d", a, b, got, want)
			}
			if got, want := impl.Minus(a, b), exact(new(big.Int).Sub(wide(a), wide(b))); got != want {
				t.Errorf("Minus(%d, %d) = %d, not %d", a, b, got, want)
			}
			if got, want := impl.Times(a, b), exact(new(big.Int).Mul(wide(a), wide(b))); got != want {
				t.Errorf("Times(%d, %d) = %d, not %d", a, b, got, want)
			}
		}
	}
}

// P1: order, brackets, sharing out.
func TestFieldOrderBracketsSharing(t *testing.T) {
	for _, a := range testInts() {
		for _, b := range testInts() {
			if impl.Plus(a, b) != impl.Plus(b, a) || impl.Times(a, b) != impl.Times(b, a) {
				t.Fatalf("order: %d %d", a, b)
			}
			if impl.Minus(a, b) != impl.Mod(-impl.Minus(b, a)) {
				t.Fatalf("order of a difference: %d %d", a, b)
			}
			for _, c := range edgeInts() {
				checkTriple(t, a, b, c)
			}
		}
	}
}

func checkTriple(t *testing.T, a int, b int, c int) {
	t.Helper()
	if impl.Plus(impl.Plus(a, b), c) != impl.Plus(a, impl.Plus(b, c)) {
		t.Fatalf("brackets of sums: %d %d %d", a, b, c)
	}
	if impl.Times(impl.Times(a, b), c) != impl.Times(a, impl.Times(b, c)) {
		t.Fatalf("brackets of products: %d %d %d", a, b, c)
	}
	if impl.Times(a, impl.Plus(b, c)) != impl.Plus(impl.Times(a, b), impl.Times(a, c)) {
		t.Fatalf("sharing out: %d %d %d", a, b, c)
	}
	if impl.Times(a, impl.Minus(b, c)) != impl.Minus(impl.Times(a, b), impl.Times(a, c)) {
		t.Fatalf("sharing out of a difference: %d %d %d", a, b, c)
	}
	if impl.Over(impl.Plus(a, b), c) != impl.Plus(impl.Over(a, c), impl.Over(b, c)) {
		t.Fatalf("sharing out of a quotient: %d %d %d", a, b, c)
	}
}

// P1: undoing.
func TestFieldUndoing(t *testing.T) {
	for _, a := range testInts() {
		if impl.Plus(a, 0) != impl.Mod(a) || impl.Times(a, 1) != impl.Mod(a) || impl.Minus(a, a) != 0 {
			t.Errorf("0 and 1: %d", a)
		}
		if impl.Mod(a) != 0 && (impl.Times(a, impl.Inverse(a)) != 1 || impl.Inverse(impl.Inverse(a)) != impl.Mod(a)) {
			t.Errorf("Inverse(%d) = %d", a, impl.Inverse(a))
		}
		for _, b := range testInts() {
			if impl.Minus(impl.Plus(a, b), b) != impl.Mod(a) || impl.Plus(impl.Minus(a, b), b) != impl.Mod(a) {
				t.Errorf("undoing a sum: %d %d", a, b)
			}
			if impl.Over(a, b) != impl.Times(a, impl.Inverse(b)) {
				t.Errorf("Over(%d, %d) = %d", a, b, impl.Over(a, b))
			}
			if impl.Mod(b) != 0 && (impl.Over(impl.Times(a, b), b) != impl.Mod(a) || impl.Times(impl.Over(a, b), b) != impl.Mod(a)) {
				t.Errorf("undoing a product: %d %d", a, b)
			}
		}
	}
}

func TestInverseAndOverStayInRange(t *testing.T) {
	for _, a := range testInts() {
		for _, b := range testInts() {
			if x := impl.Over(a, b); x < 0 || x >= impl.Prime {
				t.Errorf("Over(%d, %d) = %d", a, b, x)
			}
		}
		if x := impl.Inverse(a); x < 0 || x >= impl.Prime {
			t.Errorf("Inverse(%d) = %d", a, x)
		}
	}
}

func TestInverseAndOverAtZero(t *testing.T) {
	for _, zero := range []int{0, impl.Prime, -impl.Prime, 2 * impl.Prime} {
		if impl.Inverse(zero) != 0 {
			t.Errorf("Inverse(%d) = %d", zero, impl.Inverse(zero))
		}
		for _, a := range testInts() {
			if impl.Over(a, zero) != 0 || impl.Over(zero, a) != 0 {
				t.Errorf("Over of %d and %d", a, zero)
			}
		}
	}
	if impl.Inverse(1) != 1 || impl.Inverse(-1) != impl.Prime-1 || impl.Inverse(impl.Prime+1) != 1 || impl.Inverse(2) != 1073741824 {
		t.Error("Inverse of 1, -1, Prime + 1 or 2")
	}
}

func TestPowerAgainstExact(t *testing.T) {
	prime := big.NewInt(impl.Prime)
	for _, a := range testInts() {
		for _, n := range []int{0, 1, 2, 3, 31, 999, impl.MaxPower - 1, impl.MaxPower} {
			want := int(new(big.Int).Exp(wide(exact(wide(a))), wide(n), prime).Int64())
			if got := impl.Power(a, n); got != want {
				t.Errorf("Power(%d, %d) = %d, not %d", a, n, got, want)
			}
			if got := impl.Power(a, -n); got != impl.Inverse(want) {
				t.Errorf("Power(%d, %d) = %d, not %d", a, -n, got, impl.Inverse(want))
			}
		}
	}
}

func TestPowerEdges(t *testing.T) {
	for _, a := range testInts() {
		if impl.Power(a, 0) != 1 {
			t.Errorf("Power(%d, 0) = %d", a, impl.Power(a, 0))
		}
		for _, n := range []int{impl.MaxPower + 1, -impl.MaxPower - 1, math.MaxInt, math.MinInt, math.MinInt + 1, impl.Prime - 1} {
			if impl.Power(a, n) != 0 {
				t.Errorf("Power(%d, %d) = %d", a, n, impl.Power(a, n))
			}
		}
	}
	if impl.Power(1, impl.MaxPower) != 1 || impl.Power(1, -impl.MaxPower) != 1 {
		t.Error("a limit that is met is refused")
	}
	if impl.Power(0, 0) != 1 || impl.Power(0, 5) != 0 || impl.Power(0, -5) != 0 || impl.Power(impl.Prime, -1) != 0 {
		t.Error("powers of 0")
	}
	if impl.Power(-2, 3) != impl.Mod(-8) || impl.Power(-1, impl.MaxPower-1) != impl.Prime-1 {
		t.Error("powers below 0")
	}
}

// P1: powers that add up. 0 has no Inverse, so its powers do for n of 0 and above alone.
func TestPowersAddUp(t *testing.T) {
	steps := []int{-impl.MaxPower / 2, -1000, -31, -2, -1, 0, 1, 2, 31, 1000, impl.MaxPower / 2}
	for _, a := range testInts() {
		for _, m := range steps {
			for _, n := range steps {
				if impl.Mod(a) == 0 && (m < 0 || n < 0) {
					continue
				}
				if impl.Times(impl.Power(a, m), impl.Power(a, n)) != impl.Power(a, m+n) {
					t.Fatalf("Power(%d, ..): %d and %d do not add up", a, m, n)
				}
			}
			for _, b := range edgeInts() {
				if impl.Times(impl.Power(a, m), impl.Power(b, m)) != impl.Power(impl.Times(a, b), m) {
					t.Fatalf("Power of a product: %d %d to %d", a, b, m)
				}
			}
		}
	}
}

func TestSigned(t *testing.T) {
	const half = (impl.Prime - 1) / 2
	rows := []struct{ a, want int }{
		{0, 0}, {1, 1}, {-1, -1}, {half, half}, {half + 1, -half}, {-half, -half}, {-half - 1, half},
		{impl.Prime - 1, -1}, {impl.Prime, 0}, {impl.Prime + 1, 1},
	}
	for _, row := range rows {
		if got := impl.Signed(row.a); got != row.want {
			t.Errorf("Signed(%d) = %d, not %d", row.a, got, row.want)
		}
	}
	for _, a := range testInts() {
		got := impl.Signed(a)
		if got < -half || got > half || impl.Mod(got) != impl.Mod(a) {
			t.Errorf("Signed(%d) = %d", a, got)
		}
	}
}

func TestFracOk(t *testing.T) {
	const most = impl.MaxPart
	rows := []struct {
		f    impl.Frac
		want bool
	}{
		{impl.Frac{Num: 0, Den: 1}, true}, {impl.Frac{Num: 0, Den: 2}, false}, {impl.Frac{Num: 0, Den: most}, false},
		{impl.Frac{Num: 0, Den: 0}, false}, {impl.Frac{Num: 1, Den: 0}, false}, {impl.Frac{Num: 0, Den: -1}, false},
		{impl.Frac{Num: 1, Den: -1}, false}, {impl.Frac{Num: -1, Den: -2}, false}, {impl.Frac{Num: 1, Den: math.MinInt}, false},
		{impl.Frac{Num: 1, Den: most}, true}, {impl.Frac{Num: 1, Den: most + 1}, false}, {impl.Frac{Num: 1, Den: math.MaxInt}, false},
		{impl.Frac{Num: most, Den: 1}, true}, {impl.Frac{Num: most + 1, Den: 1}, false}, {impl.Frac{Num: math.MaxInt, Den: 1}, false},
		{impl.Frac{Num: -most, Den: 1}, true}, {impl.Frac{Num: -most - 1, Den: 1}, false}, {impl.Frac{Num: math.MinInt, Den: 1}, false},
		{impl.Frac{Num: most, Den: most}, false}, {impl.Frac{Num: -most, Den: most}, false}, {impl.Frac{Num: most, Den: most - 1}, true},
		{impl.Frac{Num: 6, Den: 4}, false}, {impl.Frac{Num: -6, Den: 4}, false}, {impl.Frac{Num: -3, Den: 2}, true},
		{impl.Frac{Num: 7, Den: 21}, false}, {impl.Frac{Num: 217, Den: 217 * 151}, false}, {impl.Frac{Num: 1, Den: 1}, true},
		{impl.Frac{Num: -1, Den: 1}, true}, {impl.Frac{Num: 35, Den: 36}, true}, {impl.Frac{Num: math.MinInt, Den: math.MinInt}, false},
	}
	for _, row := range rows {
		if got := impl.FracOk(row.f); got != row.want {
			t.Errorf("FracOk(%v) = %v", row.f, got)
		}
		if !row.want && impl.OfFrac(row.f) != 0 {
			t.Errorf("OfFrac(%v) = %d, not 0", row.f, impl.OfFrac(row.f))
		}
		if row.want && impl.OfFrac(row.f) != impl.Over(row.f.Num, row.f.Den) {
			t.Errorf("OfFrac(%v) = %d", row.f, impl.OfFrac(row.f))
		}
	}
}

func TestFracOkOfSmallParts(t *testing.T) {
	for num := -60; num <= 60; num++ {
		for den := -3; den <= 60; den++ {
			want := den >= 1 && divisor(num, den) == 1
			if got := impl.FracOk(impl.Frac{Num: num, Den: den}); got != want {
				t.Errorf("FracOk(%d over %d) = %v", num, den, got)
			}
		}
	}
}

// P2: a fraction that can be comes back.
func TestFracThereAndBack(t *testing.T) {
	for _, f := range someFracs(20000, 2) {
		a := impl.OfFrac(f)
		if a < 0 || a >= impl.Prime || impl.Times(a, f.Den) != impl.Mod(f.Num) {
			t.Fatalf("OfFrac(%v) = %d", f, a)
		}
		for _, same := range []int{a, a + impl.Prime, a - impl.Prime} {
			if back, ok := impl.ToFrac(same); !ok || back != f {
				t.Fatalf("ToFrac(%d) = %v %v, not %v", same, back, ok, f)
			}
		}
	}
}

func TestToFracAgainstSearch(t *testing.T) {
	found, none := 0, 0
	numbers := append(testInts(), someInts(20, 3)...)
	for _, f := range someFracs(60, 4) {
		numbers = append(numbers, impl.OfFrac(f), impl.OfFrac(f)+1)
	}
	for _, a := range numbers {
		want, wantOk := searchFrac(a)
		if wantOk {
			found++
		} else {
			none++
		}
		if got, ok := impl.ToFrac(a); got != want || ok != wantOk {
			t.Errorf("ToFrac(%d) = %v %v, not %v %v", a, got, ok, want, wantOk)
		}
	}
	if found < 20 || none < 10 {
		t.Errorf("only %d numbers with a Frac and %d without", found, none)
	}
}

func TestToFracJustOutside(t *testing.T) {
	for _, a := range []int{impl.MaxPart + 1, -impl.MaxPart - 1, impl.Inverse(impl.MaxPart + 1), impl.Over(impl.MaxPart+2, impl.MaxPart)} {
		if f, ok := impl.ToFrac(a); ok || f != (impl.Frac{}) {
			t.Errorf("ToFrac(%d) = %v %v", a, f, ok)
		}
	}
}

// P2: sums, differences, products and quotients come out as themselves, where they can be.
func TestFracArithmeticIsExact(t *testing.T) {
	checked := 0
	small := rand.New(rand.NewSource(5))
	fracs := someFracs(120, 6)
	for len(fracs) < 240 {
		num, den := small.Intn(301)-150, 1+small.Intn(120)
		common := divisor(num, den)
		fracs = append(fracs, impl.Frac{Num: num / common, Den: den / common})
	}
	for _, f := range fracs {
		for _, g := range fracs {
			a, b := impl.OfFrac(f), impl.OfFrac(g)
			x, y := big.NewRat(int64(f.Num), int64(f.Den)), big.NewRat(int64(g.Num), int64(g.Den))
			checked += checkExact(t, impl.Plus(a, b), new(big.Rat).Add(x, y))
			checked += checkExact(t, impl.Minus(a, b), new(big.Rat).Sub(x, y))
			checked += checkExact(t, impl.Times(a, b), new(big.Rat).Mul(x, y))
			if g.Num != 0 {
				checked += checkExact(t, impl.Over(a, b), new(big.Rat).Quo(x, y))
			}
		}
	}
	if checked < 10000 {
		t.Errorf("only %d outcomes could be", checked)
	}
}

func checkExact(t *testing.T, got int, want *big.Rat) int {
	t.Helper()
	f, can := fracOf(want)
	if !can {
		return 0
	}
	if back, ok := impl.ToFrac(got); !ok || back != f {
		t.Fatalf("%d is %v %v, not %v", got, back, ok, f)
	}
	return 1
}

func TestShowNum(t *testing.T) {
	rows := []struct {
		a    int
		want string
	}{
		{0, "0"}, {impl.Prime, "0"}, {1, "1"}, {-1, "-1"}, {impl.Prime - 1, "-1"}, {impl.Prime + 1, "1"},
		{impl.MaxPart, "32767"}, {-impl.MaxPart, "-32767"}, {impl.MaxPart + 1, "#32768"}, {-impl.MaxPart - 1, "#2147450879"},
		{impl.Over(1, 2), "1/2"}, {impl.Over(-1, 2), "-1/2"}, {impl.Over(6, 4), "3/2"}, {impl.Over(4, 2), "2"},
		{impl.Over(1, impl.MaxPart), "1/32767"}, {impl.Over(-impl.MaxPart+1, impl.MaxPart), "-32766/32767"},
		{impl.Over(impl.MaxPart, impl.MaxPart-1), "32767/32766"}, {impl.Over(1, 5), "1/5"}, {impl.Over(1, -5), "-1/5"},
	}
	for _, row := range rows {
		if got := impl.ShowNum(row.a); got != row.want {
			t.Errorf("ShowNum(%d) = %q, not %q", row.a, got, row.want)
		}
	}
}

func TestShowNumAgainstSearch(t *testing.T) {
	for _, a := range testInts() {
		want := "#" + strconv.Itoa(exact(wide(a)))
		if f, ok := searchFrac(a); ok {
			want = strings.TrimSuffix(strconv.Itoa(f.Num)+"/"+strconv.Itoa(f.Den), "/1")
		}
		if got := impl.ShowNum(a); got != want {
			t.Errorf("ShowNum(%d) = %q, not %q", a, got, want)
		}
	}
}

// P2: what is shown is read back.
func TestReadNumOfShowNum(t *testing.T) {
	numbers := append(edgeInts(), someInts(20000, 7)...)
	for _, f := range someFracs(5000, 8) {
		numbers = append(numbers, impl.OfFrac(f))
	}
	for _, a := range numbers {
		if got, ok := impl.ReadNum(impl.ShowNum(a)); !ok || got != impl.Mod(a) {
			t.Fatalf("ReadNum(%q) = %d %v, not %d", impl.ShowNum(a), got, ok, impl.Mod(a))
		}
	}
}

func TestReadNumOfEachForm(t *testing.T) {
	rows := []struct {
		s    string
		want int
	}{
		{"0", 0}, {"7", 7}, {"-7", impl.Prime - 7}, {"32767", 32767}, {"-32767", impl.Prime - 32767},
		{"1/2", 1073741824}, {"-1/2", impl.Prime - 1073741824}, {"-32766/32767", impl.Over(-32766, 32767)},
		{"#32768", 32768}, {"#2147450879", 2147450879},
	}
	for _, row := range rows {
		if got, ok := impl.ReadNum(row.s); !ok || got != row.want {
			t.Errorf("ReadNum(%q) = %d %v, not %d", row.s, got, ok, row.want)
		}
	}
}

func TestReadNumOfWhatIsNeverShown(t *testing.T) {
	long := strings.Repeat("1234567890", 1000)
	wrong := []string{
		"", " ", "00", "01", "-01", "+1", "+0", "-0", "--1", "-", "+", "/", "#", "#/", "1-", "0x1", "1_0", "1e3", "1.0",
		"1/1", "-1/1", "0/1", "0/2", "-0/1", "1/0", "0/0", "-1/0", "2/4", "-6/4", "3/3", "1/-2", "-1/-2", "1/+2", "+1/2",
		"1/02", "01/2", "-01/2", "1//2", "1/2/3", "/2", "1/", "-/2", "1/2/", "a", "1a", "a1", "1/a", "a/2", "1/2a",
		"32768", "-32768", "40000", "1/32768", "32768/32767", "-32768/32767", "32767/32767", "65536/3",
		"#0", "#1", "#5", "#32767", "#2147483646", "#1073741824", "#032768", "#00", "#+32768", "#-32768", "#-1", "# 32768", "##32768",
		"#32768/1", "#32768 ", "#1/2", "#2147483647", "#2147483648", "#2147516415", "#4294967295", "#9223372036854775807", "#9223372036854775808",
		"#18446744073709584384", "2147483647", "2147483648", "-2147483647", "9223372036854775807", "-9223372036854775808", "9223372036854775808", "18446744073709551617",
		" 1", "1 ", "1 /2", "1/ 2", "1\n", "\t1", "1\x00", "\x00", "\xff", "#\xff", "１", "−1",
		long, "-" + long, "#" + long, long + "/2", "1/" + long, strings.Repeat("0", 1000), strings.Repeat("0", 1000) + "1", "#" + strings.Repeat("0", 1000) + "32768", strings.Repeat("-", 1000), strings.Repeat("/", 1000), strings.Repeat("#", 1000),
	}
	for _, s := range wrong {
		if got, ok := impl.ReadNum(s); ok || got != 0 {
			t.Errorf("ReadNum(%q) = %d %v", s, got, ok)
		}
	}
}

// A text is read just when it is what is shown for what was read.
func TestReadNumOfShortTexts(t *testing.T) {
	const signs = "0129-+/# "
	read := 0
	var try func(s string, left int)
	try = func(s string, left int) {
		got, ok := impl.ReadNum(s)
		if ok && impl.ShowNum(got) != s || !ok && got != 0 || ok != shownForm(s) {
			t.Errorf("ReadNum(%q) = %d %v", s, got, ok)
		}
		if ok {
			read++
		}
		for i := 0; left > 0 && i < len(signs); i++ {
			try(s+signs[i:i+1], left-1)
		}
	}
	try("", 5)
	if read == 0 {
		t.Error("nothing was read")
	}
}

// shownForm says whether a text of at most five bytes is shown: so short, no
// number needs a #.
func shownForm(s string) bool {
	num, den, broken := strings.Cut(s, "/")
	n, ok := decimal(strings.TrimPrefix(num, "-"))
	if !ok || n == 0 && num != "0" || n > impl.MaxPart {
		return false
	}
	if !broken {
		return true
	}
	d, ok := decimal(den)
	return ok && d > 1 && divisor(n, d) == 1
}

func decimal(s string) (int, bool) {
	if s == "" || s[0] == '0' && s != "0" || strings.Trim(s, "0123456789") != "" {
		return 0, false
	}
	n, err := strconv.Atoi(s)
	return n, err == nil
}

package tests

import (
	"math"
	"math/big"
	"math/rand"
	"slices"
	"sort"
	"testing"

	"loop.example/g00033/impl"
)

// A floatShape is what the document says of a kind of float: its reference
// below works with fractions, by these words alone.
type floatShape struct {
	expBits  int
	fracBits int
	nan      int
}

var (
	floatOf32 = floatShape{expBits: 8, fracBits: 23, nan: 2143289344}
	floatOf16 = floatShape{expBits: 5, fracBits: 10, nan: 32256}
)

const (
	minusZero     = 0x80000000
	leastFloat    = 0x00000001
	greatestTiny  = 0x007fffff
	leastNormal   = 0x00800000
	oneFloat      = 0x3f800000
	twoFloat      = 0x40000000
	greatestFloat = 0x7f7fffff
	plusInf       = 0x7f800000
	minusInf      = 0xff800000
)

func (s floatShape) signBit() int { return 1 << (s.expBits + s.fracBits) }

func (s floatShape) infinity() int { return (1<<s.expBits - 1) << s.fracBits }

func (s floatShape) isNaN(a int) bool {
	return a < 0 || a >= 2*s.signBit() || a&(s.signBit()-1) > s.infinity()
}

func (s floatShape) isInf(a int) bool {
	return !s.isNaN(a) && a&(s.signBit()-1) == s.infinity()
}

// worth is what a finite float is worth; the infinities are given what the next
// float would be worth, so that nearness can be asked of them too.
func (s floatShape) worth(a int) *big.Rat {
	e := a & (s.signBit() - 1) >> s.fracBits
	top := wide(a & (1<<s.fracBits - 1))
	if e > 0 {
		top.Add(top, wide(1<<s.fracBits))
		e--
	}
	lowest := 2 - 1<<(s.expBits-1) - s.fracBits
	out := new(big.Rat).Mul(new(big.Rat).SetInt(top), twoTo(e+lowest))
	if a&s.signBit() != 0 {
		out.Neg(out)
	}
	return out
}

func twoTo(n int) *big.Rat {
	if n < 0 {
		return new(big.Rat).Inv(twoTo(-n))
	}
	return new(big.Rat).SetInt(new(big.Int).Lsh(big.NewInt(1), uint(n)))
}

// nearest searches the float nearest to a value; minus is the sign of a zero.
func (s floatShape) nearest(x *big.Rat, minus bool) int {
	size := new(big.Rat).Abs(x)
	above := sort.Search(s.infinity(), func(a int) bool { return s.worth(a).Cmp(size) > 0 })
	below := above - 1
	fromBelow := new(big.Rat).Sub(size, s.worth(below))
	fromAbove := new(big.Rat).Sub(s.worth(above), size)
	out := below
	if c := fromBelow.Cmp(fromAbove); below < s.infinity() && (c > 0 || c == 0 && above%2 == 0) {
		out = above
	}
	if x.Sign() < 0 || x.Sign() == 0 && minus {
		out += s.signBit()
	}
	return out
}

func negative(a int) bool { return a&minusZero != 0 }

func isZero(a int) bool { return a == 0 || a == minusZero }

func infOf(minus bool) int {
	if minus {
		return minusInf
	}
	return plusInf
}

func zeroOf(minus bool) int {
	if minus {
		return minusZero
	}
	return 0
}

func wantAdd(a int, b int) int {
	switch {
	case floatOf32.isNaN(a) || floatOf32.isNaN(b):
		return impl.NaN
	case floatOf32.isInf(a) && floatOf32.isInf(b) && a != b:
		return impl.NaN
	case floatOf32.isInf(a):
		return a
	case floatOf32.isInf(b):
		return b
	}
	sum := new(big.Rat).Add(floatOf32.worth(a), floatOf32.worth(b))
	return floatOf32.nearest(sum, a == minusZero && b == minusZero)
}

func wantMul(a int, b int) int {
	minus := negative(a) != negative(b)
	switch {
	case floatOf32.isNaN(a) || floatOf32.isNaN(b):
		return impl.NaN
	case isZero(a) && floatOf32.isInf(b) || floatOf32.isInf(a) && isZero(b):
		return impl.NaN
	case floatOf32.isInf(a) || floatOf32.isInf(b):
		return infOf(minus)
	}
	product := new(big.Rat).Mul(floatOf32.worth(a), floatOf32.worth(b))
	return floatOf32.nearest(product, minus)
}

func wantDiv(a int, b int) int {
	minus := negative(a) != negative(b)
	switch {
	case floatOf32.isNaN(a) || floatOf32.isNaN(b):
		return impl.NaN
	case isZero(a) && isZero(b) || floatOf32.isInf(a) && floatOf32.isInf(b):
		return impl.NaN
	case floatOf32.isInf(a) || isZero(b):
		return infOf(minus)
	case floatOf32.isInf(b):
		return zeroOf(minus)
	}
	quotient := new(big.Rat).Quo(floatOf32.worth(a), floatOf32.worth(b))
	return floatOf32.nearest(quotient, minus)
}

// bothSigns gives each float and its opposite.
func bothSigns(sizes ...int) []int {
	var out []int
	for _, a := range sizes {
		out = append(out, a, a|minusZero)
	}
	return out
}

func noFloats() []int {
	return []int{
		math.MinInt, math.MinInt + 1, -4294967296, -2147483648, -oneFloat, -1,
		4294967296, 4294967296 + oneFloat, 1 << 33, math.MaxInt - 1, math.MaxInt,
	}
}

func otherNaNs() []int {
	return bothSigns(impl.NaN, plusInf+1, impl.NaN-1, impl.NaN+1, 0x7fffffff)
}

func edgeFloats() []int {
	return bothSigns(
		0, leastFloat, 2, 3, greatestTiny-1, greatestTiny, leastNormal, leastNormal+1,
		2*leastNormal-1, 2*leastNormal, oneFloat-1, oneFloat, oneFloat+1,
		twoFloat-1, twoFloat, twoFloat+1, 0x40400000, 0x3f000000, 0x3effffff, 0x3f000001,
		0x4b000000, 0x4b7fffff, 0x4b800000, 0x4b800001, // 2^23, 2^24 - 1, 2^24, 2^24 + 2
		0x33800000, 0x34000000, 0x33800001, 0x337fffff, // 2^-24, 2^-23 and about them
		0x7e7fffff, 0x7e800000, 0x7effffff, 0x7f000000, 0x7f000001,
		0x73000000, 0x72ffffff, 0x73000001, // 2^103, half a unit of the greatest, and about it
		0x72800000, 0x73800000, greatestFloat-1, greatestFloat, plusInf,
	)
}

func someFloats(count int, seed int64) []int {
	source := rand.New(rand.NewSource(seed))
	out := make([]int, count)
	for i := range out {
		out[i] = int(source.Uint32())
		switch source.Intn(4) {
		case 0: // few bits of fraction: ties are likely
			out[i] &= 0xfff00000 | 1<<source.Intn(20)
		case 1: // one e for many: sums that cancel, or carry
			out[i] = out[i]&0x807fffff | oneFloat + source.Intn(3)<<23
		}
	}
	return out
}

func testFloats() []int {
	return slices.Concat(edgeFloats(), otherNaNs(), noFloats(), someFloats(40, 2))
}

type floatCase struct {
	a    int
	b    int
	want int
}

func checkFloats(t *testing.T, name string, f func(int, int) int, cases []floatCase) {
	t.Helper()
	for _, c := range cases {
		if got := f(c.a, c.b); got != c.want {
			t.Errorf("%s(%#x, %#x) = %#x, want %#x", name, c.a, c.b, got, c.want)
		}
	}
}

func TestFloatLimits(t *testing.T) {
	if impl.NaN != 2143289344 || impl.MaxWhole != 4611686018427387904 {
		t.Error("the constants of chapter 2")
	}
}

func TestFloatArithmeticAgainstFractions(t *testing.T) {
	floats := testFloats()
	for _, a := range floats {
		var sums, products, quotients []floatCase
		for _, b := range floats {
			sums = append(sums, floatCase{a, b, wantAdd(a, b)})
			products = append(products, floatCase{a, b, wantMul(a, b)})
			quotients = append(quotients, floatCase{a, b, wantDiv(a, b)})
		}
		checkFloats(t, "FAdd", impl.FAdd, sums)
		checkFloats(t, "FMul", impl.FMul, products)
		checkFloats(t, "FDiv", impl.FDiv, quotients)
	}
}

// bitsOf gives the float of the processor's own one.
func bitsOf(x float32) int {
	if x != x {
		return impl.NaN
	}
	return int(math.Float32bits(x))
}

func valueOf(a int) float32 { return math.Float32frombits(uint32(a)) }

func TestFloatArithmeticAgainstProcessor(t *testing.T) {
	as, bs := someFloats(300000, 3), someFloats(300000, 4)
	for i, a := range as {
		b := bs[i]
		if i%3 == 0 { // e not far apart, so that all bits count
			b = b&0x807fffff | min(max(a>>23&255+i%61-30, 0), 254)<<23
		}
		x, y := valueOf(a), valueOf(b)
		cases := []floatCase{{a, b, bitsOf(x + y)}, {a, b ^ minusZero, bitsOf(x - y)}}
		checkFloats(t, "FAdd", impl.FAdd, cases)
		checkFloats(t, "FMul", impl.FMul, []floatCase{{a, b, bitsOf(x * y)}})
		checkFloats(t, "FDiv", impl.FDiv, []floatCase{{a, b, bitsOf(x / y)}})
		if impl.FLess(a, b) != (x < y) {
			t.Errorf("FLess(%#x, %#x) is not %v", a, b, x < y)
		}
	}
}

func TestFAddEdges(t *testing.T) {
	checkFloats(t, "FAdd", impl.FAdd, []floatCase{
		{0, 0, 0}, {minusZero, minusZero, minusZero}, {0, minusZero, 0}, {minusZero, 0, 0},
		{oneFloat, oneFloat | minusZero, 0},
		{plusInf, minusInf, impl.NaN}, {minusInf, plusInf, impl.NaN},
		{plusInf, plusInf, plusInf}, {minusInf, minusInf, minusInf},
		{minusInf, greatestFloat, minusInf}, {0, plusInf, plusInf},
		{oneFloat, 0x33800000, oneFloat},         // 1 + 2^-24: a tie, the even one below
		{oneFloat, 0x33800001, oneFloat + 1},     // just above the tie
		{oneFloat + 1, 0x33800000, oneFloat + 2}, // a tie, the even one above
		{oneFloat + 1, 0x337fffff, oneFloat + 1}, // just below the tie
		{twoFloat - 1, 0x33800000, twoFloat},     // rounds up into the next e
		{oneFloat, leastFloat, oneFloat},
		{oneFloat, leastFloat | minusZero, oneFloat},
		{oneFloat + 1, leastFloat | minusZero, oneFloat + 1},
		{greatestTiny, leastFloat, leastNormal},
		{leastNormal, leastFloat | minusZero, greatestTiny},
		{greatestFloat, 0x73000000, plusInf},
		{greatestFloat, 0x72ffffff, greatestFloat},
		{greatestFloat | minusZero, 0x73000000 | minusZero, minusInf},
		{greatestFloat | minusZero, 0x72ffffff | minusZero, greatestFloat | minusZero},
		{greatestFloat, greatestFloat, plusInf},
		{impl.NaN + 1, oneFloat, impl.NaN}, {minusInf + 1, plusInf, impl.NaN},
		{-1, oneFloat, impl.NaN}, {oneFloat, 4294967296, impl.NaN},
		{math.MinInt, math.MaxInt, impl.NaN}, {plusInf, math.MaxInt, impl.NaN},
	})
}

func TestFMulEdges(t *testing.T) {
	checkFloats(t, "FMul", impl.FMul, []floatCase{
		{0, plusInf, impl.NaN}, {minusInf, 0, impl.NaN}, {minusZero, plusInf, impl.NaN},
		{minusInf, minusInf, plusInf}, {minusInf, leastFloat, minusInf},
		{0, minusZero, minusZero}, {minusZero, minusZero, 0}, {0, oneFloat | minusZero, minusZero},
		{minusZero, greatestFloat, minusZero}, {0, greatestFloat, 0},
		{leastFloat, 0x3f000000, 0},                      // half of the least: a tie, to zero
		{leastFloat | minusZero, 0x3f000000, minusZero},  // and it keeps its sign
		{leastFloat, 0x3f000001, leastFloat},             // just above
		{leastFloat, 0x3effffff, 0},                      // just below
		{leastFloat, 0x3fc00000, 2},                      // 1.5 of the least: a tie, to the even one
		{3, 0x3f000000, 2},                               // 1.5 of the least again
		{leastFloat, leastFloat | minusZero, minusZero},  // far below the least
		{twoFloat - 1, twoFloat - 1, 0x407ffffe},         // many bits
		{oneFloat + 1, 0x3fc00000, 0x3fc00002},           // 1.5 + 1.5 units: a tie, up
		{oneFloat + 3, 0x3fc00000, 0x3fc00004},           // 1.5 + 4.5 units: a tie, down
		{greatestTiny, twoFloat, 0x00fffffe},             // into the next e, exactly
		{0x00ffffff, 0x3f000000, leastNormal},            // a tie that rounds up into e 1
		{0x00fffffd, 0x3f000000, greatestTiny - 1},       // a tie that does not
		{greatestFloat, oneFloat + 1, plusInf},           // just too much
		{greatestFloat, oneFloat - 1, greatestFloat - 1}, // just not
		{0x7f000000, twoFloat | minusZero, minusInf},     // 2^128
		{0x7f000000, twoFloat - 1, greatestFloat},        // the greatest, exactly
		{0x5f842108, 0x5f780000, plusInf},                // (2 - 2^-24) * 2^127: the tie
		{0x5f89b29a, 0x5f6df87b, greatestFloat},          // just below the tie
		{0x5f98573f, 0x5f5718bf, plusInf},                // just above the tie
		{0x5f89b29a, 0xdf6df87b, greatestFloat | minusZero},
		{0x5f842108, 0x5ef80000, 0x7f000000},                 // a tie that rounds up into the next e
		{0x5f7fffff, 0x5f7fffff | minusZero, 0xff7ffffe},     // - 2^128 (1 - 2^-24)^2
		{0x5f800000, 0x5f800000, plusInf},                    // 2^64 twice
		{greatestFloat, greatestFloat | minusZero, minusInf}, // as great as can be
		{impl.NaN, 0, impl.NaN}, {plusInf + 1, oneFloat, impl.NaN}, {minusInf + 1, 0, impl.NaN},
		{-1, oneFloat, impl.NaN}, {0, 4294967296, impl.NaN}, {plusInf, math.MinInt, impl.NaN},
	})
}

func TestFDivEdges(t *testing.T) {
	checkFloats(t, "FDiv", impl.FDiv, []floatCase{
		{0, 0, impl.NaN}, {0, minusZero, impl.NaN}, {minusZero, minusZero, impl.NaN},
		{plusInf, plusInf, impl.NaN}, {minusInf, plusInf, impl.NaN},
		{oneFloat, 0, plusInf}, {oneFloat, minusZero, minusInf}, {leastFloat | minusZero, 0, minusInf},
		{plusInf, 0, plusInf}, {minusInf, 0, minusInf}, {plusInf, minusZero, minusInf},
		{0, plusInf, 0}, {oneFloat, minusInf, minusZero}, {oneFloat | minusZero, minusInf, 0},
		{0, oneFloat | minusZero, minusZero}, {minusZero, leastFloat, minusZero}, {0, leastFloat, 0},
		{plusInf, leastFloat | minusZero, minusInf},
		{oneFloat, 0x40400000, 0x3eaaaaab},                   // a third, up
		{twoFloat, 0x40400000, 0x3f2aaaab},                   // two thirds
		{oneFloat, 0x41200000, 0x3dcccccd},                   // a tenth
		{leastFloat, twoFloat, 0},                            // a tie, to zero
		{leastFloat | minusZero, twoFloat, minusZero},        // and it keeps its sign
		{leastFloat, twoFloat - 1, leastFloat},               // just above
		{leastFloat, twoFloat + 1, 0},                        // just below
		{3, twoFloat, 2}, {5, twoFloat, 2}, {7, twoFloat, 4}, // ties of both parities
		{leastNormal, twoFloat, 0x00400000},
		{0x00ffffff, twoFloat, leastNormal}, // a tie that rounds up into e 1
		{greatestFloat, 0x3f000000, plusInf},
		{greatestFloat, oneFloat - 1, plusInf}, // 2^128 exactly
		{greatestFloat, oneFloat, greatestFloat},
		{greatestFloat - 1, oneFloat - 1, greatestFloat}, // just not
		{oneFloat, leastFloat, plusInf},
		{oneFloat, greatestFloat, 0x00200000}, // rounds up to 2^-128
		{leastFloat, greatestFloat | minusZero, minusZero},
		{greatestTiny, leastFloat, 0x4afffffe}, // 2^23 - 1
		{leastFloat, leastFloat | minusZero, oneFloat | minusZero},
		{impl.NaN, 0, impl.NaN}, {0, minusInf + 1, impl.NaN}, {plusInf + 1, plusInf, impl.NaN},
		{-1, 0, impl.NaN}, {oneFloat, 4294967296, impl.NaN}, {math.MaxInt, plusInf, impl.NaN},
	})
}

func TestFloatOrderDoesNotMatter(t *testing.T) {
	floats := append(testFloats(), someFloats(400, 5)...)
	for _, a := range floats {
		for _, b := range floats {
			if impl.FAdd(a, b) != impl.FAdd(b, a) || impl.FMul(a, b) != impl.FMul(b, a) {
				t.Errorf("%#x and %#x mind which comes first", a, b)
			}
		}
	}
}

func TestFloatAndItsOpposite(t *testing.T) {
	for _, a := range append(testFloats(), someFloats(20000, 6)...) {
		want := 0
		if floatOf32.isNaN(a) || floatOf32.isInf(a) {
			want = impl.NaN
		}
		if got := impl.FAdd(a, impl.FNeg(a)); got != want {
			t.Errorf("FAdd(%#x, its opposite) = %#x, want %#x", a, got, want)
		}
	}
}

func TestFNeg(t *testing.T) {
	for _, a := range append(testFloats(), someFloats(2000, 7)...) {
		want := a ^ minusZero
		if floatOf32.isNaN(a) {
			want = impl.NaN
		}
		if got := impl.FNeg(a); got != want {
			t.Errorf("FNeg(%#x) = %#x, want %#x", a, got, want)
		}
	}
	if impl.FNeg(0) != minusZero || impl.FNeg(minusInf) != plusInf || impl.FNeg(4294967295) != impl.NaN {
		t.Error("FNeg at the edges")
	}
}

func TestFLess(t *testing.T) {
	floats := append(testFloats(), someFloats(60, 8)...)
	for _, a := range floats {
		for _, b := range floats {
			want := !floatOf32.isNaN(a) && !floatOf32.isNaN(b) && floatOf32.worth(a).Cmp(floatOf32.worth(b)) < 0
			if impl.FLess(a, b) != want {
				t.Errorf("FLess(%#x, %#x) is not %v", a, b, want)
			}
			if want && impl.FLess(b, a) {
				t.Errorf("FLess(%#x, %#x) goes both ways", a, b)
			}
		}
	}
	if impl.FLess(minusZero, 0) || impl.FLess(0, minusZero) || !impl.FLess(minusZero, leastFloat) {
		t.Error("FLess of zeros")
	}
}

func TestSmallWholeNumbersAreExact(t *testing.T) {
	source := rand.New(rand.NewSource(9))
	for i := range 200000 {
		a, b := source.Intn(8191)-4095, source.Intn(8191)-4095
		if i < 4 {
			a, b = 4095*(1-i%2*2), 4095*(1-i/2*2)
		}
		x, y := impl.FOfInt(a), impl.FOfInt(b)
		if impl.FToInt(x) != a || impl.FAdd(x, y) != impl.FOfInt(a+b) || impl.FToInt(impl.FAdd(x, y)) != a+b {
			t.Fatalf("%d plus %d is not exact", a, b)
		}
		if impl.FToInt(impl.FMul(x, y)) != a*b {
			t.Fatalf("%d times %d is not exact", a, b)
		}
		if b != 0 && impl.FToInt(impl.FDiv(impl.FMul(x, y), y)) != a {
			t.Fatalf("%d times %d by %d is not exact", a, b, b)
		}
		if impl.FLess(x, y) != (a < b) {
			t.Fatalf("FLess of %d and %d", a, b)
		}
	}
}

func TestFOfInt(t *testing.T) {
	ints := append(edgeInts(), someInts(4000, 10)...)
	for by := range 63 {
		for off := -3; off <= 3; off++ {
			ints = append(ints, 1<<by+off, -1<<by+off)
		}
		for off := range 3 { // ties and what lies about them, where an int has enough bits
			half := 1 << by >> 25
			ints = append(ints, 1<<by+half+off-1, 1<<by+3*half+off-1, -1<<by-half+off-1)
		}
	}
	for _, n := range ints {
		want := floatOf32.nearest(new(big.Rat).SetInt(wide(n)), false)
		if got := impl.FOfInt(n); got != want {
			t.Errorf("FOfInt(%d) = %#x, want %#x", n, got, want)
		}
	}
	checkInts(t, "FOfInt", impl.FOfInt, [][2]int{
		{0, 0}, {1, oneFloat}, {-1, oneFloat | minusZero},
		{16777215, 0x4b7fffff}, {16777216, 0x4b800000}, {16777217, 0x4b800000},
		{16777218, 0x4b800001}, {16777219, 0x4b800002}, {-16777217, 0xcb800000}, {-16777219, 0xcb800002},
		{1 << 62, 0x5e800000}, {1<<62 - 1, 0x5e800000}, {1<<62 + 1<<38, 0x5e800000},
		{1<<62 + 1<<38 + 1, 0x5e800001}, {math.MaxInt, 0x5f000000}, {math.MinInt, 0xdf000000},
	})
}

func checkInts(t *testing.T, name string, f func(int) int, cases [][2]int) {
	t.Helper()
	for _, c := range cases {
		if got := f(c[0]); got != c[1] {
			t.Errorf("%s(%#x) = %#x, want %#x", name, c[0], got, c[1])
		}
	}
}

// nearestInt rounds a fraction by its floor, of two as near to the even one.
func nearestInt(x *big.Rat) *big.Int {
	floor := new(big.Int).Div(x.Num(), x.Denom()) // Euclid's: the denominator is above 0
	rest := new(big.Rat).Sub(x, new(big.Rat).SetInt(floor))
	if c := rest.Cmp(big.NewRat(1, 2)); c > 0 || c == 0 && floor.Bit(0) == 1 {
		floor.Add(floor, big.NewInt(1))
	}
	return floor
}

func wantToInt(a int) int {
	if floatOf32.isNaN(a) {
		return 0
	}
	whole := nearestInt(floatOf32.worth(a))
	most := wide(impl.MaxWhole)
	if whole.CmpAbs(most) > 0 {
		return impl.MaxWhole * whole.Sign()
	}
	return int(whole.Int64())
}

func TestFToInt(t *testing.T) {
	floats := append(testFloats(), someFloats(3000, 11)...)
	for e := 120; e < 195; e++ {
		for _, f := range []int{0, 1, 0x7fffff, 0x400000, 0x600000, 0x400001, 0x3fffff} {
			floats = append(floats, bothSigns(e<<23|f)...)
		}
	}
	for _, a := range floats {
		if got, want := impl.FToInt(a), wantToInt(a); got != want {
			t.Errorf("FToInt(%#x) = %d, want %d", a, got, want)
		}
	}
	checkInts(t, "FToInt", impl.FToInt, [][2]int{
		{0, 0}, {minusZero, 0}, {leastFloat, 0}, {0x3f000000, 0}, {0x3f000001, 1},
		{0x3fc00000, 2}, {0x40200000, 2}, {0x40600000, 4}, {0x3effffff, 0},
		{0xbf000000, 0}, {0xbfc00000, -2}, {0xc0200000, -2}, {0xc0600000, -4}, {0xbf000001, -1},
		{0x5e800000, 1 << 62}, {0x5e7fffff, 1<<62 - 1<<38}, {0x5e800001, 1 << 62},
		{0xde800000, -1 << 62}, {0xde800001, -1 << 62}, {0x5f000000, 1 << 62}, {0x5f800000, 1 << 62},
		{greatestFloat, 1 << 62}, {greatestFloat | minusZero, -1 << 62},
		{plusInf, 1 << 62}, {minusInf, -1 << 62},
		{impl.NaN, 0}, {minusInf + 1, 0}, {-1, 0}, {4294967296, 0}, {math.MinInt, 0}, {math.MaxInt, 0},
	})
}

func wantHalf(a int) int {
	switch {
	case floatOf32.isNaN(a):
		return 32256
	case floatOf32.isInf(a) && negative(a):
		return 0xfc00
	case floatOf32.isInf(a):
		return 0x7c00
	}
	return floatOf16.nearest(floatOf32.worth(a), negative(a))
}

func TestHalfOf(t *testing.T) {
	floats := append(testFloats(), someFloats(2000, 12)...)
	source := rand.New(rand.NewSource(13))
	for range 4000 { // where halves are
		floats = append(floats, source.Intn(2)<<31|(127-27+source.Intn(45))<<23|source.Intn(1<<23))
	}
	for h := range 0x7c00 { // the ties between halves, and one float to each side
		if tie := tieAbove(h); h%37 == 0 || h < 40 || h > 0x7bd0 || h%1024 > 1021 {
			floats = append(floats, bothSigns(tie-1, tie, tie+1)...)
		}
	}
	for _, a := range floats {
		if got, want := impl.HalfOf(a), wantHalf(a); got != want {
			t.Errorf("HalfOf(%#x) = %#x, want %#x", a, got, want)
		}
	}
}

// tieAbove is the float between a half and the next one.
func tieAbove(h int) int {
	sum := new(big.Rat).Add(floatOf16.worth(h), floatOf16.worth(h+1))
	return floatOf32.nearest(sum.Mul(sum, big.NewRat(1, 2)), false)
}

func TestHalfOfEdges(t *testing.T) {
	checkInts(t, "HalfOf", impl.HalfOf, [][2]int{
		{0, 0}, {minusZero, 32768}, {oneFloat, 15360}, {oneFloat | minusZero, 48128},
		{0x477fe000, 0x7bff}, // 65504, the greatest half
		{0x477fefff, 0x7bff}, // just below 65520
		{0x477ff000, 0x7c00}, // 65520 becomes an infinity
		{0xc77fefff, 0xfbff}, {0xc77ff000, 0xfc00},
		{greatestFloat, 0x7c00}, {greatestFloat | minusZero, 0xfc00}, {plusInf, 0x7c00}, {minusInf, 0xfc00},
		{0x33000000, 0},     // 2^-25: a tie, to zero
		{0xb3000000, 32768}, // and it keeps its sign
		{0x33000001, 1}, {0xb3000001, 32769}, {0x32ffffff, 0}, {0xb2ffffff, 32768},
		{leastFloat, 0}, {leastFloat | minusZero, 32768}, {leastNormal, 0},
		{0x33800000, 1}, {0x33c00000, 2}, {0x34200000, 2}, {0x34600000, 4}, // 1, 1.5, 2.5 and 3.5 of the least half
		{0x387fc000, 0x03ff}, // the greatest with e 0
		{0x387fe000, 0x0400}, // a tie that rounds up into e 1
		{0x387fdfff, 0x03ff}, {0x38800000, 0x0400},
		{0x3f801000, 15360}, {0x3f801001, 15361}, {0x3f803000, 15362}, {0x3f802fff, 15361}, // about ties at 1
		{impl.NaN, 32256}, {impl.NaN | minusZero, 32256}, {plusInf + 1, 32256}, {4294967295, 32256},
		{-1, 32256}, {4294967296, 32256}, {math.MinInt, 32256}, {math.MaxInt, 32256},
	})
}

func TestOfHalfOfEachHalf(t *testing.T) {
	for h := range 65536 {
		got := impl.OfHalf(h)
		good := false
		switch {
		case floatOf16.isNaN(h):
			good = got == impl.NaN
		case floatOf16.isInf(h):
			good = got == infOf(h >= 32768)
		default:
			good = !floatOf32.isNaN(got) && negative(got) == (h >= 32768) &&
				floatOf32.worth(got).Cmp(floatOf16.worth(h)) == 0
		}
		if !good {
			t.Errorf("OfHalf(%#x) = %#x", h, got)
		}
	}
	for _, h := range []int{-1, -32768, 65536, 65537, 65536 + 15360, 1 << 32, math.MinInt, math.MaxInt} {
		if got := impl.OfHalf(h); got != impl.NaN {
			t.Errorf("OfHalf(%d) = %#x, want NaN", h, got)
		}
	}
}

func TestHalfThereAndBack(t *testing.T) {
	for h := range 65536 {
		want := h
		if floatOf16.isNaN(h) {
			want = 32256
		}
		if got := impl.HalfOf(impl.OfHalf(h)); got != want {
			t.Errorf("HalfOf of OfHalf of %#x is %#x", h, got)
		}
	}
}

func TestLessHalvesAreLessFloats(t *testing.T) {
	// From the - infinity up to the + infinity; the zeros are alike.
	var halves []int
	for h := 0xfc00; h >= 0x8000; h-- {
		halves = append(halves, h)
	}
	for h := 1; h <= 0x7c00; h++ {
		halves = append(halves, h)
	}
	for i, h := range halves[1:] {
		a, b := impl.OfHalf(halves[i]), impl.OfHalf(h)
		if !impl.FLess(a, b) || impl.FLess(b, a) {
			t.Errorf("half %#x is not less than %#x as floats", halves[i], h)
		}
	}
	source := rand.New(rand.NewSource(14))
	for range 20000 {
		i, j := source.Intn(len(halves)), source.Intn(len(halves))
		if impl.FLess(impl.OfHalf(halves[i]), impl.OfHalf(halves[j])) != (i < j) {
			t.Errorf("halves %#x and %#x as floats", halves[i], halves[j])
		}
	}
	if impl.FLess(impl.OfHalf(0x8000), impl.OfHalf(0)) || impl.FLess(impl.OfHalf(0), impl.OfHalf(0x8000)) {
		t.Error("zeros of halves are not alike")
	}
}

func TestFSum(t *testing.T) {
	big24 := 0x4b800000 // 2^24: one more is lost, two are not
	for _, c := range []struct {
		xs   []int
		want int
	}{
		{nil, 0}, {[]int{}, 0}, {[]int{oneFloat}, oneFloat}, {[]int{minusZero}, 0},
		{[]int{minusZero, minusZero}, 0}, {[]int{plusInf}, plusInf}, {[]int{minusInf + 1}, impl.NaN},
		{[]int{-1}, impl.NaN}, {[]int{4294967296}, impl.NaN}, {[]int{math.MinInt}, impl.NaN},
		{[]int{oneFloat, oneFloat}, twoFloat}, {[]int{oneFloat, oneFloat, oneFloat}, 0x40400000},
		{[]int{big24, oneFloat, oneFloat}, big24},
		{[]int{oneFloat, oneFloat, big24}, big24 + 1},
		{[]int{plusInf, minusInf, oneFloat}, impl.NaN}, {[]int{oneFloat, math.MaxInt, oneFloat}, impl.NaN},
		{[]int{greatestFloat, greatestFloat, minusInf}, impl.NaN},
	} {
		if got := impl.FSum(c.xs); got != c.want {
			t.Errorf("FSum(%#x) = %#x, want %#x", c.xs, got, c.want)
		}
	}
	xs := someFloats(1000, 15)
	for i := range xs {
		xs[i] = xs[i]&0x83ffffff | 0x3c000000
	}
	want := 0
	for _, x := range xs {
		want = wantAdd(want, x)
	}
	if got := impl.FSum(xs); got != want {
		t.Errorf("FSum of many = %#x, want %#x", got, want)
	}
}

func wantTree(xs []int) int {
	if len(xs) == 0 {
		return 0
	}
	if len(xs) == 1 {
		if floatOf32.isNaN(xs[0]) {
			return impl.NaN
		}
		return xs[0]
	}
	return wantAdd(wantTree(xs[:len(xs)/2]), wantTree(xs[len(xs)/2:]))
}

func TestFTree(t *testing.T) {
	big24 := 0x4b800000
	for _, c := range []struct {
		xs   []int
		want int
	}{
		{nil, 0}, {[]int{}, 0}, {[]int{oneFloat}, oneFloat}, {[]int{minusZero}, minusZero},
		{[]int{minusZero, minusZero}, minusZero}, {[]int{minusZero, minusZero, minusZero}, minusZero},
		{[]int{plusInf}, plusInf}, {[]int{impl.NaN}, impl.NaN}, {[]int{minusInf + 1}, impl.NaN},
		{[]int{-1}, impl.NaN}, {[]int{4294967296}, impl.NaN}, {[]int{math.MinInt}, impl.NaN}, {[]int{math.MaxInt}, impl.NaN},
		{[]int{oneFloat, oneFloat}, twoFloat}, {[]int{oneFloat, -1}, impl.NaN},
		{[]int{big24, oneFloat, oneFloat}, big24 + 1}, // one, then the other two together
		{[]int{oneFloat, oneFloat, big24}, big24},
		{[]int{big24, oneFloat, oneFloat, oneFloat, oneFloat}, big24 + 2}, // 2 and 3 of them
	} {
		if got := impl.FTree(c.xs); got != c.want {
			t.Errorf("FTree(%#x) = %#x, want %#x", c.xs, got, c.want)
		}
	}
	for count := range 70 {
		xs := someFloats(count, int64(100+count))
		for i := range xs {
			xs[i] = xs[i]&0x83ffffff | 0x3c000000
		}
		if got, want := impl.FTree(xs), wantTree(xs); got != want {
			t.Errorf("FTree of %d floats = %#x, want %#x", count, got, want)
		}
	}
}

func TestFTreeOfEqualPowersOfTwo(t *testing.T) {
	for _, c := range [][3]int{
		{1 << 20, oneFloat, 0x49800000}, {1<<20 - 1, oneFloat, 0x497ffff0}, {1 << 20, leastFloat, 1 << 20},
		{1<<20 - 1, leastFloat | minusZero, 1<<20 - 1 | minusZero},
		{1<<20 - 1, 0x75800000, 0x7f7ffff0}, {1 << 20, 0x75800000, plusInf}, {1 << 20, 0xf5800000, minusInf},
	} {
		if got := impl.FTree(slices.Repeat([]int{c[1]}, c[0])); got != c[2] {
			t.Errorf("FTree of %d times %#x = %#x, want %#x", c[0], c[1], got, c[2])
		}
	}
}

func TestFloatListsAreLeftAlone(t *testing.T) {
	xs := []int{oneFloat, -1, twoFloat, oneFloat, 77}
	impl.FSum(xs[:4])
	impl.FTree(xs[:4])
	if !slices.Equal(xs, []int{oneFloat, -1, twoFloat, oneFloat, 77}) {
		t.Errorf("the list became %d", xs)
	}
	if impl.FSum(xs[2:4]) != 0x40400000 || impl.FTree(xs[2:4]) != 0x40400000 {
		t.Error("what lies behind the list's length was read")
	}
}

func wantNear(n int, d int) int {
	if d < 1 || d > impl.MaxWhole {
		return 0
	}
	return int(nearestInt(new(big.Rat).SetFrac(wide(n), wide(d))).Int64())
}

func TestNear(t *testing.T) {
	ds := append(edgeInts(), 1, 2, 3, 4, 5, 6, 7, 10, 65536, 1<<61, 1<<62-1, impl.MaxWhole, impl.MaxWhole+1)
	ns := append(edgeInts(), 1<<61-1, 1<<61, 1<<61+1, 3<<61-1, 3<<61, 3<<61+1, -1<<61, -1<<61-1, -3<<61, -3<<61-1, -3<<61+1)
	for n := -25; n <= 25; n++ {
		ns = append(ns, n)
	}
	for _, d := range append(ds, someInts(60, 16)...) {
		for _, n := range append(ns, someInts(60, 17)...) {
			got := impl.Near(n, d)
			if want := wantNear(n, d); got != want {
				t.Errorf("Near(%d, %d) = %d, want %d", n, d, got, want)
			}
			if d >= 1 && d <= impl.MaxWhole {
				checkHalfUnit(t, n, d, got)
			}
		}
	}
}

// checkHalfUnit asks for the promise alone: twice what is off is at most d.
func checkHalfUnit(t *testing.T, n int, d int, got int) {
	t.Helper()
	off := new(big.Int).Mul(wide(got), wide(d))
	off.Sub(off, wide(n)).Lsh(off, 1)
	if off.CmpAbs(wide(d)) > 0 {
		t.Errorf("Near(%d, %d) = %d is more than half a unit off", n, d, got)
	}
}

func TestNearEdges(t *testing.T) {
	for _, c := range [][3]int{
		{5, 2, 2}, {7, 2, 4}, {-5, 2, -2}, {-7, 2, -4}, {1, 2, 0}, {-1, 2, 0}, {3, 2, 2}, {-3, 2, -2},
		{0, 1, 0}, {7, 0, 0}, {7, -1, 0}, {7, -2, 0}, {7, 1, 7}, {-7, 1, -7}, {7, 3, 2}, {8, 3, 3}, {-7, 3, -2}, {-8, 3, -3},
		{math.MaxInt, 1, math.MaxInt}, {math.MinInt, 1, math.MinInt},
		{math.MaxInt, 2, 1 << 62}, {math.MinInt, 2, -1 << 62}, {math.MinInt + 1, 2, -1 << 62},
		{math.MaxInt, impl.MaxWhole, 2}, {math.MinInt, impl.MaxWhole, -2},
		{1 << 61, impl.MaxWhole, 0}, {1<<61 + 1, impl.MaxWhole, 1}, {3 << 61, impl.MaxWhole, 2}, {3<<61 - 1, impl.MaxWhole, 1},
		{-1 << 61, impl.MaxWhole, 0}, {-1<<61 - 1, impl.MaxWhole, -1}, {-3 << 61, impl.MaxWhole, -2},
		{math.MaxInt, impl.MaxWhole + 1, 0}, {math.MinInt, impl.MaxWhole + 1, 0},
		{math.MaxInt, math.MaxInt, 0}, {math.MinInt, math.MinInt, 0}, {5, math.MinInt, 0},
	} {
		if got := impl.Near(c[0], c[1]); got != c[2] {
			t.Errorf("Near(%d, %d) = %d, want %d", c[0], c[1], got, c[2])
		}
	}
}

func TestShift(t *testing.T) {
	ns := append(edgeInts(), someInts(200, 18)...)
	for n := -40; n <= 40; n++ {
		ns = append(ns, n)
	}
	for by := -2; by <= 70; by++ {
		about := ns
		if by >= 1 && by <= 62 { // ties of both parities, and one to each side
			for times := -3; times <= 3; times += 2 {
				tie := times << (by - 1)
				about = append(about, tie-1, tie, tie+1)
			}
		}
		for _, n := range about {
			want := 0
			if by >= 0 && by <= 62 {
				want = wantNear(n, 1<<by)
			}
			if got := impl.Shift(n, by); got != want {
				t.Errorf("Shift(%d, %d) = %d, want %d", n, by, got, want)
			}
		}
	}
}

func TestShiftEdges(t *testing.T) {
	for _, c := range [][3]int{
		{5, 0, 5}, {math.MinInt, 0, math.MinInt}, {math.MaxInt, 0, math.MaxInt},
		{5, 1, 2}, {7, 1, 4}, {-5, 1, -2}, {-7, 1, -4}, {1, 1, 0}, {-1, 1, 0}, {3, 1, 2}, {-3, 1, -2},
		{math.MaxInt, 1, 1 << 62}, {math.MinInt, 1, -1 << 62},
		{math.MaxInt, 62, 2}, {math.MinInt, 62, -2}, {1 << 61, 62, 0}, {1<<61 + 1, 62, 1}, {3 << 61, 62, 2},
		{1 << 62, 62, 1}, {-1 << 62, 62, -1},
		{math.MaxInt, 63, 0}, {math.MinInt, 63, 0}, {5, 64, 0}, {5, -1, 0}, {5, math.MinInt, 0}, {5, math.MaxInt, 0},
	} {
		if got := impl.Shift(c[0], c[1]); got != c[2] {
			t.Errorf("Shift(%d, %d) = %d, want %d", c[0], c[1], got, c[2])
		}
	}
}

func TestShiftOfWholeMultiples(t *testing.T) {
	for by := range 63 {
		for _, n := range append(testInts(), -2, 2) {
			times := n >> by
			if got := impl.Shift(times<<by, by); got != times {
				t.Errorf("Shift(%d << %d, %d) = %d", times, by, by, got)
			}
		}
	}
}

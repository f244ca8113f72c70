package impl

import (
	"strconv"
	"strings"
)

const Prime = 2147483647
const MaxPower = 1000000
const MaxPart = 32767

type Frac struct {
	Num int
	Den int
}

// A residue is an int that has been brought into 0 .. Prime - 1: sums and
// products of two of them stay within an int.
type residue int

func residueOf(x int) residue {
	rest := residue(x % Prime)
	if rest < 0 {
		rest += Prime
	}
	return rest
}

func (a residue) plus(b residue) residue { return (a + b) % Prime }

func (a residue) minus(b residue) residue { return (a + Prime - b) % Prime }

func (a residue) times(b residue) residue { return a * b % Prime }

// power wants n of at least 0. It squares, so that n may be as great as
// Prime - 2, as inverse needs it.
func (a residue) power(n int) residue {
	product := residue(1)
	for n > 0 {
		if n%2 == 1 {
			product = product.times(a)
		}
		a = a.times(a)
		n /= 2
	}
	return product
}

// inverse rests on Fermat: a to the power Prime - 1 is 1 for each a but 0,
// and 0 stays 0.
func (a residue) inverse() residue { return a.power(Prime - 2) }

func (a residue) signed() int {
	if a > (Prime-1)/2 {
		return int(a) - Prime
	}
	return int(a)
}

// fraction gives the one Frac that can have a as its number, though it need
// not be FracOk. In each row of Euclid's steps the first int is a times the
// second, modulo Prime. Since 2 * MaxPart * MaxPart is below Prime, a Frac that
// is FracOk stands in the first row of which the first int is at most MaxPart,
// if it stands anywhere.
func (a residue) fraction() Frac {
	upper := [2]int{Prime, 0}
	lower := [2]int{int(a), 1}
	step := func() {
		often := upper[0] / lower[0]
		upper[0] -= often * lower[0]
		upper[1] -= often * lower[1]
		upper, lower = lower, upper
	}
	for lower[0] > MaxPart {
		step()
	}
	if lower[1] < 0 {
		return Frac{Num: -lower[0], Den: -lower[1]}
	}
	return Frac{Num: lower[0], Den: lower[1]}
}

func Mod(x int) int { return int(residueOf(x)) }

func Plus(a int, b int) int { return int(residueOf(a).plus(residueOf(b))) }

func Minus(a int, b int) int { return int(residueOf(a).minus(residueOf(b))) }

func Times(a int, b int) int { return int(residueOf(a).times(residueOf(b))) }

func Inverse(a int) int { return int(residueOf(a).inverse()) }

func Over(a int, b int) int {
	return int(residueOf(a).times(residueOf(b).inverse()))
}

func Power(a int, n int) int {
	if n < -MaxPower || n > MaxPower {
		return 0
	}
	if n < 0 {
		return int(residueOf(a).power(-n).inverse())
	}
	return int(residueOf(a).power(n))
}

func Signed(a int) int { return residueOf(a).signed() }

func FracOk(f Frac) bool {
	if f.Den < 1 || f.Den > MaxPart || f.Num < -MaxPart || f.Num > MaxPart {
		return false
	}
	return inLowestTerms(f)
}

func inLowestTerms(f Frac) bool {
	a, b := f.Den, f.Num
	for b != 0 {
		a, b = b, a%b
	}
	return a == 1 || a == -1
}

func OfFrac(f Frac) int {
	if !FracOk(f) {
		return 0
	}
	return Over(f.Num, f.Den)
}

func ToFrac(a int) (Frac, bool) {
	f := residueOf(a).fraction()
	if !FracOk(f) {
		return Frac{}, false
	}
	return f, true
}

func ShowNum(a int) string {
	f, ok := ToFrac(a)
	if !ok {
		return "#" + strconv.Itoa(Mod(a))
	}
	if f.Den == 1 {
		return strconv.Itoa(f.Num)
	}
	return strconv.Itoa(f.Num) + "/" + strconv.Itoa(f.Den)
}

// ReadNum lets ShowNum judge: whatever was guessed from a text that ShowNum
// never shows, another text is shown for it.
func ReadNum(s string) (int, bool) {
	a := guessNum(s)
	if ShowNum(a) != s {
		return 0, false
	}
	return a, true
}

func guessNum(s string) int {
	if digits, marked := strings.CutPrefix(s, "#"); marked {
		return guessInt(digits)
	}
	num, den, broken := strings.Cut(s, "/")
	if !broken {
		return OfFrac(Frac{Num: guessInt(num), Den: 1})
	}
	return OfFrac(Frac{Num: guessInt(num), Den: guessInt(den)})
}

// guessInt gives 0 for what is no int: ReadNum finds that out by itself.
func guessInt(digits string) int {
	n, err := strconv.Atoi(digits)
	if err != nil {
		return 0
	}
	return n
}

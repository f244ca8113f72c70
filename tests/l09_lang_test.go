package tests

import (
	"maps"
	"math/rand"
	"slices"
	"strconv"
	"strings"
	"testing"

	"loop.example/g00033/impl"
)

// noteLines are lines without anything but notes, for a source to stand behind.
func noteLines() []string {
	return []string{"\n", "#\n", "# in x [2] \"\n", "  # \" ( \t \x00 \xff $\n\n   \n###\n"}
}

// checkTraced holds the graph's text against the wanted one, also behind notes,
// and gives the graph.
func checkTraced(t *testing.T, src string, want string) impl.Graph {
	t.Helper()
	g, at := impl.Trace(src)
	if at != -1 || wantText(g) != want {
		t.Fatalf("Trace(%q) = %d,\n%snot\n%s", src, at, wantText(g), want)
	}
	if _, ok := wantAll(g, nil); !ok {
		t.Fatalf("Trace(%q) is no graph", src)
	}
	for _, notes := range noteLines() {
		h, at := impl.Trace(notes + src)
		switch {
		case len(notes+src) > 4000 && (at != 0 || !isNoGraph(h)):
			t.Fatalf("Trace(%q) is %d, though it is too long", notes+src, at)
		case len(notes+src) <= 4000 && (at != -1 || !sameGraph(g, h)):
			t.Fatalf("Trace(%q) is %d, another one than without notes", notes+src, at)
		}
	}
	return g
}

// checkPlace holds the place that is told, also behind notes.
func checkPlace(t *testing.T, src string, want int) {
	t.Helper()
	g, at := impl.Trace(src)
	if at != want || !isNoGraph(g) {
		t.Fatalf("Trace(%q) = %v, %d, not %d", src, g, at, want)
	}
	for _, name := range []string{"x", "y", "f", "relu", ""} {
		if got := impl.Named(src, name); got != -1 {
			t.Fatalf("Named(%q, %q) = %d", src, name, got)
		}
	}
	for _, notes := range noteLines() {
		moved := want + len(notes)
		if len(notes+src) > 4000 {
			moved = 0
		}
		if g, at := impl.Trace(notes + src); at != moved || !isNoGraph(g) {
			t.Fatalf("Trace(%q) = %v, %d, not %d", notes+src, g, at, moved)
		}
	}
}

// checkMarked wants sources in which a ^ stands ahead of what is wrong.
func checkMarked(t *testing.T, sources ...string) {
	t.Helper()
	for _, marked := range sources {
		before, behind, found := strings.Cut(marked, "^")
		if !found {
			t.Fatalf("%q has no mark", marked)
		}
		checkPlace(t, before+behind, len(before))
	}
}

// checkMarkedBehind has the same lines ahead of all sources.
func checkMarkedBehind(t *testing.T, lines string, sources ...string) {
	t.Helper()
	for _, marked := range sources {
		checkMarked(t, lines+marked)
	}
}

// A tracedCase has a source and the text of its graph.
type tracedCase struct{ src, text string }

func checkTracedCases(t *testing.T, cases []tracedCase) {
	t.Helper()
	for _, c := range cases {
		checkTraced(t, c.src, c.text)
	}
}

func TestLanguageLimits(t *testing.T) {
	if impl.MaxSource != 4000 || impl.MaxName != 20 || impl.MaxCalls != 1000 || impl.MaxDeep != 40 {
		t.Error("the limits of chapter 9")
	}
}

func TestTraceOfNothing(t *testing.T) {
	for _, src := range []string{"", "\n", "\n\n", " ", "   \n  ", "#", "# in x [2]", "#\n#", " # \" \t\n \n", strings.Repeat("\n", 4000)} {
		checkTraced(t, src, "out\n")
	}
}

func TestTraceOfLines(t *testing.T) {
	checkTracedCases(t, []tracedCase{
		{"in x [2]", "0 input [2]\nout\n"},
		{"in x [2]\n", "0 input [2]\nout\n"},
		{"in x []", "0 input []\nout\n"},
		{"in x[2,3]", "0 input [2 3]\nout\n"},
		{"  in   x  [ 2 , 3 ]  # so\n\n  # and so\n in y [ ]", "0 input [2 3]\n1 input []\nout\n"},
		{"in x [0002]#[3]", "0 input [2]\nout\n"},
		{"in x [1,1,1,1,1,4096]", "0 input [1 1 1 1 1 4096]\nout\n"},
		{"let x = 5", "0 const [] 5\nout\n"},
		{"let x=5\nout x\nout x", "0 const [] 5\nout 0 0\n"},
		{"out 007", "0 const [] 7\nout 0\n"},
		{"out 0", "0 const [] 0\nout 0\n"},
		{"out 000000000", "0 const [] 0\nout 0\n"},
		{"out 999999999", "0 const [] #999999999\nout 0\n"},
		{"def f(a)=a", "out\n"},
		{"def f()=1\nout f()", "0 const [] 1\nout 0\n"},
		{"def f ( ) = 1\nout f ( ) # f(\n", "0 const [] 1\nout 0\n"},
		{"out (1)", "0 const [] 1\nout 0\n"},
		{"out ( ( 1 ) )", "0 const [] 1\nout 0\n"},
		{"in x [2]\nout x\nlet y = x\nout y", "0 input [2]\nout 0 0\n"},
		{"let in_ = 1\nlet In = 2\nlet outs = 3\nlet le = 4\nlet d_e_f = 5\nout in_\nout d_e_f", "0 const [] 1\n1 const [] 2\n2 const [] 3\n3 const [] 4\n4 const [] 5\nout 0 4\n"},
		{"let a_234567890123456789 = 1\nout a_234567890123456789", "0 const [] 1\nout 0\n"},
		{"let Z = 1\nlet z = 2\nout Z", "0 const [] 1\n1 const [] 2\nout 0\n"},
	})
}

func TestTraceOfPiecesThatStandNowhere(t *testing.T) {
	pieces := []string{
		"1a", "12x3", "1_", "9_9", "_", "_a", "_1", "__", "a23456789012345678901", "abcdefghijklmnopqrst_", "in_let_def_out_in_let", "1234567890", "0000000001", "2147483647", "2147483648", "99999999999999999999999",
		"\t", "\x00", "\x7f", "\x80", "\xff", "é", "\r", "\v", ".", ";", ":", "'", "`", "!", "$", "%", "&", "<", ">", "?", "@", "\\", "^", "{", "}", "|", "~", "\"", "\"a", "\"a->a#", "\"#\\",
	}
	frames := [][2]string{
		{"", ""}, {"", " x [2]"}, {"in x [2]\n", "\n"}, {"in ", " [2]"}, {"in x ", ""}, {"in x ", "[2]"}, {"in x [", "]"}, {"in x [2,", "]"}, {"in x [2 ", "]"}, {"in x [2] ", "\nout x"},
		{"let ", " = 1"}, {"let y ", ""}, {"let y ", " = 2"}, {"let y = ", ""}, {"let y = 1 ", "\n"}, {"let y = 1 + ", "\n"}, {"def ", "(a) = a"}, {"def f", "(a) = a"}, {"def f ", ""}, {"def f(", ") = 1"},
		{"def f(a ", ") = a"}, {"def f(a, ", ") = a"}, {"def f(a) ", " = a"}, {"def f(a) = ", ""}, {"def f(a) = a ", ""}, {"out ", ""}, {"out -", ""}, {"out (", ")"}, {"out (1 ", ")"}, {"out 1 * ", " * 1"},
		{"out relu(", ")"}, {"out relu(1 ", ")"}, {"out fill([2], ", ")"}, {"out contract(", ", 1)"}, {"out contract(\"->\" ", ", 1)"},
	}
	for _, piece := range pieces {
		for _, frame := range frames {
			// A letter or digit side by side with the piece would be a part of it.
			before := frame[0]
			if strings.HasSuffix(before, "f") {
				before += " "
			}
			checkPlace(t, before+piece+frame[1], len(before))
			checkPlace(t, before+"  "+piece+frame[1], len(before)+2)
		}
	}
}

func TestTraceOfEveryByte(t *testing.T) {
	may := "\n #,=()[]+-*/\"_"
	for b := range 256 {
		letter, digit := b >= 'a' && b <= 'z' || b >= 'A' && b <= 'Z', b >= '0' && b <= '9'
		if letter || digit || strings.IndexByte(may, byte(b)) >= 0 {
			continue
		}
		piece := string([]byte{byte(b)})
		checkPlace(t, piece, 0)
		checkPlace(t, "out 1"+piece, 5)
		checkPlace(t, "let y"+piece+" = 1", 5)
		checkPlace(t, "in y [2"+piece+"]", 7)
		// Within a note or a quote it may stand.
		checkTraced(t, "out 1 #"+piece+"\nout 2", "0 const [] 1\n1 const [] 2\nout 0 1\n")
		checkPlace(t, "out contract(\"a->"+piece+"\", 1)", 4)
	}
	letters := "abcdefghijklmnopqrstuvwxyzABCDEFGHIJKLMNOPQRSTUVWXYZ"
	for _, first := range letters {
		name := string(first) + "_0123456789"
		checkTraced(t, "let "+name+" = 1\nout "+name, "0 const [] 1\nout 0\n")
	}
	checkTraced(t, "def f(abcdefghijklmnopqrst, ABCDEFGHIJKLMNOPQRST, uvwxyzUVWXYZ_9876543) = abcdefghijklmnopqrst\nout f(1, 2, 3)", "0 const [] 1\n1 const [] 2\n2 const [] 3\nout 0\n")
}

func TestTraceOfNotesAndQuotes(t *testing.T) {
	checkTracedCases(t, []tracedCase{
		{"in x [2] # \"\nout x # out x\n#out x", "0 input [2]\nout 0\n"},
		{"in x [2]\nout contract(\"a->a\", x)# \"", "0 input [2]\n1 contract 0 a->a\nout 1\n"},
		{"in x [2]\nout contract ( \"a->\" , x )", "0 input [2]\n1 contract 0 a->\nout 1\n"},
		{"in x [2]#\nout-x#", "0 input [2]\n1 neg 0\nout 1\n"},
	})
	checkMarkedBehind(t, "in x [2]\n",
		"out # x^", "out # x^\n", "out # x # x^", "out x + # x^\nout x", "in y # [2]^\n", "let y # = 1^", "# out x\nout ^z # x", "out (x # )^\n)",
		"out ^contract(\"\", x)", "out ^contract(\"#\", x)", "out ^contract(\"a#->a\", x)", "out ^contract(\"a->a#\", x)", "out ^contract(\" a->a\", x)", "out ^contract(\"a->a \", x)", "out ^contract(\"a\tb\", x)",
		"out contract(^\"a->a, x)", "out contract(^\"a->a, x)\n", "out contract(^\"a->a\n\", x)", "out contract(^\"", "out contract(^\"\n", "out contract(^\"#", "out contract(\"a->a\"^\"\", x)",
		"out ^\"a->a\"", "out ^\"\"", "^\"a->a\"", "^\"in x [2]\"", "in ^\"y\" [2]", "in y ^\"[2]\"", "in y [^\"2\"]", "let ^\"y\" = 1", "let y ^\"=\" 1", "out relu(^\"a->a\")", "out x ^\"a->a\"", "out x + ^\"a->a\"", "def f(^\"a\") = 1", "def f(a) = ^\"a\"",
	)
}

func TestTraceOfWordsThatAreNoNames(t *testing.T) {
	for _, word := range []string{"in", "let", "def", "out"} {
		for _, marked := range []string{
			"in ^W [2]", "let ^W = 1", "def ^W(a) = a", "def f(^W) = 1", "def f(a, ^W) = a", "def f(a) = ^W", "def f(a) = a + ^W", "out ^W", "out 1 + ^W", "out 1 * ^W", "out -^W", "out (^W)", "out (1 ^W)", "out 1 ^W", "out relu(^W)",
			"out ^W(1)", "let y = ^W", "let y = 1 ^W x = 1", "in x ^W [2]", "in x [^W]", "in x [2] ^W x", "def f ^W (a) = a", "out contract(^W, 1)", "out top(1, ^W)", "out fill(^W, 1)", "in x [2]\nin ^W [2]",
		} {
			checkMarked(t, strings.ReplaceAll(marked, "W", word))
		}
		if got := impl.Named("in x [2]\nlet y = x", word); got != -1 {
			t.Errorf("Named tells %d for %s", got, word)
		}
	}
	checkMarked(t, "^x", "^x = 1", "^IN x [2]", "^In x [2]", "^input x [2]", "^1", "^(", "^relu(1)", "^= 1", "^, in x [2]", "^[2]", "in x [2]\n^x [2]", "in x [2]\n  ^relu(x)", "^inx [2]", "^outx", "let x = 1 ^= 1", "let x = 1\n^= 1")
}

// cutLines have a . behind each piece behind which a line may end, and a : behind
// the NAME of a call, which stands for nothing without its brackets.
func cutLines() []string {
	return []string{
		"in y [ 2 , 3 , 4 ].", "in y [ ].", "let y = x. + 2. - x. * x. / x.", "let y = - - ( x + ( x ) ).", "let y = x. + f: ( - x , ( x ) ). * x.", "def h ( ) = 1.", "def h ( a ) = a. - a.", "def h ( a , b , c ) = f: ( a , b ). + relu: ( c ).",
		"out x.", "out - x.", "out ( x ).", "out relu: ( x ). / step: ( x ).", "out inv: ( x + x ).", "out sum: ( x ).", "out top: ( x , 0 ).", "out slice: ( x , 0 , 0 , 1 , 1 ).", "out pad: ( x , 0 , 1 , 1 , 1 ).", "out window: ( x , 0 , 1 , 1 ).",
		"out fold: ( z , 0 , 1 , 2 ).", "out spread: ( x , [ 3 , 2 ] ).", "out reshape: ( x , [ 1 , 2 ] ).", "out gather: ( x , 0 , [ 1 , 0 ] ).", "out scatter: ( x , 0 , 3 , [ 2 , 0 ] ).", "out fill: ( [ 2 , 2 ] , 7 ).", "out fill: ( [ ] , 7 ).",
		"out contract: ( \"a,a->a\" , x , - x ).", "out contract: ( \"a->\" , x ).", "out f: ( x , f: ( x , x ) ).", "out g: ( ).",
	}
}

func TestTraceOfLinesCutShort(t *testing.T) {
	ahead := "in x [2]\nin z [2,1]\ndef f(a, b) = a * b\ndef g() = 1\n"
	plain := strings.NewReplacer(".", "", ":", "")
	for _, line := range cutLines() {
		pieces := strings.Fields(line)
		for at, piece := range pieces {
			short := ahead + plain.Replace(strings.Join(pieces[:at+1], " "))
			switch {
			case strings.HasSuffix(piece, "."):
				if _, at := impl.Trace(short); at != -1 {
					t.Errorf("Trace(%q) tells %d", short, at)
				}
				continue
			case strings.HasSuffix(piece, ":"):
				for _, end := range []string{"", "\n", " # end"} {
					checkPlace(t, short+end, len(short)+1-len(piece))
				}
				continue
			}
			checkPlace(t, short, len(short))
			checkPlace(t, short+"\n", len(short))
			checkPlace(t, short+"  ", len(short)+2)
			checkPlace(t, short+"  \n", len(short)+2)
			checkPlace(t, short+"# end", len(short)+5)
			checkPlace(t, short+"# end\n\n", len(short)+5)
			checkPlace(t, short+"\nout x\nin x [$]\n", len(short))
		}
	}
}

func TestTraceOfLists(t *testing.T) {
	checkMarkedBehind(t, "in x [2]\n",
		"in y [^,]", "in y [^,2]", "in y [2,^]", "in y [2,^,3]", "in y [2 ^3]", "in y [2^", "in y [2^\n", "in y [2,^\n]", "in y [^\n]", "in y [^", "in y [2^)", "in y [2^[", "in y [^[2]]", "in y [^-2]", "in y [^x]", "in y [2, ^x]", "in y [^(2)]", "in y [1^+1]", "in y [2]^]", "in y [2]^,",
		"in y ^(2)", "in y ^2", "in y ^]", "in y ^= [2]", "in y ^z [2]", "out spread(x, [3,^])", "out spread(x, [^,3])", "out spread(x, [3 ^2])", "out spread(x, [3, 2^)", "out spread(x, [3, 2^\n])", "out fill([^-1], 2)", "out fill([2^; 2], 2)", "out gather(x, 0, [^x])", "out gather(x, 0, [0,^])", "out scatter(x, 0, 3, [1 ^1])",
		"in y ^[0]", "in y [2]\nin y ^[4097]", "in y ^[64, 65]", "in y ^[1,1,1,1,1,1,1]", "in y ^[999999999]", "in y   ^[ 2 , 000 ]\n", "in y ^[0] x", "in y ^[0] $", "in y ^[0]\nout $", "in y [0 ^$]", "in y [0, ^]",
	)
}

func TestTraceOfOperators(t *testing.T) {
	three := "in x [2]\nin y [2]\nin z [2]\n"
	nodes := "0 input [2]\n1 input [2]\n2 input [2]\n"
	cases := []tracedCase{
		{"out x + y", "3 add 0 1\nout 3\n"},
		{"out x - y", "3 sub 0 1\nout 3\n"},
		{"out y - x", "3 sub 1 0\nout 3\n"},
		{"out x * y", "3 mul 0 1\nout 3\n"},
		{"out y * x", "3 mul 1 0\nout 3\n"},
		{"out x * x", "3 mul 0 0\nout 3\n"},
		{"out x / y", "3 inv 1\n4 mul 0 3\nout 4\n"},
		{"out x / x", "3 inv 0\n4 mul 0 3\nout 4\n"},
		{"out x - y - z", "3 sub 0 1\n4 sub 3 2\nout 4\n"},
		{"out x - (y - z)", "3 sub 1 2\n4 sub 0 3\nout 4\n"},
		{"out x + y - z + x", "3 add 0 1\n4 sub 3 2\n5 add 4 0\nout 5\n"},
		{"out x / y / z", "3 inv 1\n4 mul 0 3\n5 inv 2\n6 mul 4 5\nout 6\n"},
		{"out x / (y / z)", "3 inv 2\n4 mul 1 3\n5 inv 4\n6 mul 0 5\nout 6\n"},
		{"out x / y * z", "3 inv 1\n4 mul 0 3\n5 mul 4 2\nout 5\n"},
		{"out x * y / z", "3 mul 0 1\n4 inv 2\n5 mul 3 4\nout 5\n"},
		{"out x + y * z", "3 mul 1 2\n4 add 0 3\nout 4\n"},
		{"out x * y + z", "3 mul 0 1\n4 add 3 2\nout 4\n"},
		{"out (x + y) * z", "3 add 0 1\n4 mul 3 2\nout 4\n"},
		{"out x * (y + z)", "3 add 1 2\n4 mul 0 3\nout 4\n"},
		{"out x * y + z / x - y", "3 mul 0 1\n4 inv 0\n5 mul 2 4\n6 add 3 5\n7 sub 6 1\nout 7\n"},
		{"out -x", "3 neg 0\nout 3\n"},
		{"out - - x", "3 neg 0\n4 neg 3\nout 4\n"},
		{"out --x", "3 neg 0\n4 neg 3\nout 4\n"},
		{"out -x + y", "3 neg 0\n4 add 3 1\nout 4\n"},
		{"out -x * y", "3 neg 0\n4 mul 3 1\nout 4\n"},
		{"out -(x * y)", "3 mul 0 1\n4 neg 3\nout 4\n"},
		{"out x * -y", "3 neg 1\n4 mul 0 3\nout 4\n"},
		{"out x / -y", "3 neg 1\n4 inv 3\n5 mul 0 4\nout 5\n"},
		{"out x--y", "3 neg 1\n4 sub 0 3\nout 4\n"},
		{"out x---y", "3 neg 1\n4 neg 3\n5 sub 0 4\nout 5\n"},
		{"out -3", "3 const [] 3\n4 neg 3\nout 4\n"},
		{"out 3", "3 const [] 3\nout 3\n"},
		{"out 2 - 3 * 4", "3 const [] 2\n4 const [] 3\n5 const [] 4\n6 mul 4 5\n7 sub 3 6\nout 7\n"},
		{"out 1 / 3", "3 const [] 1\n4 const [] 3\n5 inv 4\n6 mul 3 5\nout 6\n"},
		{"out 1 + 1", "3 const [] 1\n4 const [] 1\n5 add 3 4\nout 5\n"},
		{"out -2 * x", "3 const [] 2\n4 neg 3\n5 spread 4 [2]\n6 mul 5 0\nout 6\n"},
		{"let a = x + y\nlet b = a * a\nout b - a", "3 add 0 1\n4 mul 3 3\n5 sub 4 3\nout 5\n"},
	}
	for _, c := range cases {
		checkTraced(t, three+c.src, nodes+c.text)
	}
	checkMarkedBehind(t, three,
		"out x +^", "out x + ^\n", "out ^+ x", "out ^* x", "out x + ^* y", "out x * ^/ y", "out x ^y", "out x ^2", "out 2 ^x", "out (x^", "out (x^\n)", "out (^)", "out x^)", "out (x)^)", "out x^,", "out x ^= y", "out x ^[2]", "out ^[2]", "out (x ^, y)", "out -^", "out -^)", "out - ^+ x", "out ^x (y)", "out ^x(y) + $", "out 2 ^(y)",
		"out ^w", "out x + ^w", "out x * (y - ^w)", "out -^w", "out ^w + $", "out ^w + v",
	)
}

func TestTraceOfOperatorsThatSpread(t *testing.T) {
	ahead := "in m [2,3]\nin r [3]\nin c [2,1]\nin o [1]\nin n []\nin e [1,1,1,1,1,1]\nin w [64,1]\nin v [65]\nin u [64]\n"
	nodes := "0 input [2 3]\n1 input [3]\n2 input [2 1]\n3 input [1]\n4 input []\n5 input [1 1 1 1 1 1]\n6 input [64 1]\n7 input [65]\n8 input [64]\n"
	cases := []tracedCase{
		{"out m + r", "9 spread 1 [2 3]\n10 add 0 9\nout 10\n"},
		{"out r + m", "9 spread 1 [2 3]\n10 add 9 0\nout 10\n"},
		{"out m - c", "9 spread 2 [2 3]\n10 sub 0 9\nout 10\n"},
		{"out c - m", "9 spread 2 [2 3]\n10 sub 9 0\nout 10\n"},
		{"out r * c", "9 spread 1 [2 3]\n10 spread 2 [2 3]\n11 mul 9 10\nout 11\n"},
		{"out c * r", "9 spread 2 [2 3]\n10 spread 1 [2 3]\n11 mul 9 10\nout 11\n"},
		{"out c / r", "9 inv 1\n10 spread 2 [2 3]\n11 spread 9 [2 3]\n12 mul 10 11\nout 12\n"},
		{"out m / n", "9 inv 4\n10 spread 9 [2 3]\n11 mul 0 10\nout 11\n"},
		{"out n / m", "9 inv 0\n10 spread 4 [2 3]\n11 mul 10 9\nout 11\n"},
		{"out m / m", "9 inv 0\n10 mul 0 9\nout 10\n"},
		{"out m + 1", "9 const [] 1\n10 spread 9 [2 3]\n11 add 0 10\nout 11\n"},
		{"out 1 + m", "9 const [] 1\n10 spread 9 [2 3]\n11 add 10 0\nout 11\n"},
		{"out n + o", "9 spread 4 [1]\n10 add 9 3\nout 10\n"},
		{"out o + n", "9 spread 4 [1]\n10 add 3 9\nout 10\n"},
		{"out n + n", "9 add 4 4\nout 9\n"},
		{"out e * r", "9 spread 5 [1 1 1 1 1 3]\n10 spread 1 [1 1 1 1 1 3]\n11 mul 9 10\nout 11\n"},
		{"out o * e", "9 spread 3 [1 1 1 1 1 1]\n10 mul 9 5\nout 10\n"},
		{"out w + u", "9 spread 6 [64 64]\n10 spread 8 [64 64]\n11 add 9 10\nout 11\n"},
	}
	for _, c := range cases {
		checkTraced(t, ahead+c.src, nodes+c.text)
	}
	checkMarkedBehind(t, ahead,
		"out u ^+ v", "out u ^- v", "out u ^* v", "out u ^/ v", "out w ^+ v", "out v ^* w", "out w ^/ v", "out m ^- u", "out m + r + (u ^* v)", "out m ^+ u + r", "out m ^+ u * u", "out m ^+ v * v", "out n * (m ^- v) * u",
		"let k = r ^- c * u", "let k = (r - c) ^* u", "let k = r - u ^* v", "out relu(u ^/ v)", "out -(u ^+ v)", "out u ^+ v $", "out u ^+ v )", "out u ^+ v w", "out u ^+ v 2a", "out u ^+ v \"", "out u + ^$", "out u ^+ v * 1 $", "out u ^+ v\nout $",
		"out u ^+ v + k", "out u + ^k + v", "out u * 1 ^* v / k", "out relu(u ^+ v, u)", "out relu(u ^+ v", "in q ^[0]\nout u + v",
	)
}

func TestTraceOfNames(t *testing.T) {
	checkTracedCases(t, []tracedCase{
		{"in x [2]\nlet y = x\nin x [3]\nout x\nout y", "0 input [2]\n1 input [3]\nout 1 0\n"},
		{"in x [2]\nlet x = -x\nlet x = -x\nout x", "0 input [2]\n1 neg 0\n2 neg 1\nout 2\n"},
		{"let x = 1\nin x [2]\nlet x = x * x\nout x", "0 const [] 1\n1 input [2]\n2 mul 1 1\nout 2\n"},
		{"in x [2]\nin x [2]\nout x", "0 input [2]\n1 input [2]\nout 1\n"},
		{"in relu [2]\nout relu(relu)\nlet sum = relu * relu\nout sum(sum) + sum", "0 input [2]\n1 relu 0\n2 mul 0 0\n3 contract 2 a->\n4 spread 3 [2]\n5 add 4 2\nout 1 5\n"},
		{"let f = 1\ndef f(f) = f * f\nout f(f)\nlet f = 3\nout f(f) - f", "0 const [] 1\n1 mul 0 0\n2 const [] 3\n3 mul 2 2\n4 sub 3 2\nout 1 4\n"},
		{"def f(x) = -x\nin f [2]\nout f(f)\nlet f = f(f(f))\nout f", "0 input [2]\n1 neg 0\n2 neg 0\n3 neg 2\nout 1 3\n"},
		{"in x [2]\ndef x(y) = y\nout x(x)", "0 input [2]\nout 0\n"},
		{"let neg = 1\nlet add = neg\nlet input = add\ndef mul(a) = a\ndef const(b) = b\nout mul(const(input))", "0 const [] 1\nout 0\n"},
	})
	checkMarked(t,
		"out ^x", "let x = ^x", "in x [2]\nout ^y", "in x [2]\nout x + ^X", "out ^x\nin x [2]", "out ^relu", "out ^relu + 1", "out 1 + ^sum", "def f(a) = a\nout ^f", "def f(a) = a\nout ^f + f(1)", "in x [2]\nout ^x(x)", "in x [2]\nout ^x()", "out ^f(1)", "out ^f($)",
		"out ^neg(1)", "out ^add(1, 1)", "out ^sub(1, 1)", "out ^mul(1, 1)", "out ^input([2])", "out ^const([2], 1)", "out ^Relu(1)", "out ^max(1)", "out ^div(1, 1)", "out ^concat(1)", "out ^less(1, 1)", "let f = 1\nout ^f(f)",
	)
}

// callLines tell the inputs of the sources with built-in calls.
const callLines = "in x [2,3]\nin s [7]\nin q [3,3]\nin n []\nin e [1,1,1,1,1,1]\nin l [256]\nin k [257]\n"

const callNodes = "0 input [2 3]\n1 input [7]\n2 input [3 3]\n3 input []\n4 input [1 1 1 1 1 1]\n5 input [256]\n6 input [257]\n"

func TestTraceOfBuiltInCalls(t *testing.T) {
	six := ", s, s, s, s, s, s)"
	cases := []tracedCase{
		{"relu(x)", "7 relu 0"}, {"step(x)", "7 step 0"}, {"inv(x)", "7 inv 0"}, {"relu(n)", "7 relu 3"},
		{"sum(n)", "7 contract 3 ->"}, {"sum(s)", "7 contract 1 a->"}, {"sum(x)", "7 contract 0 ab->"}, {"sum(e)", "7 contract 4 abcdef->"},
		{"top(x, 0)", "7 top 0 (0)"}, {"top(x, 01)", "7 top 0 (1)"}, {"top(e,5)", "7 top 4 (5)"},
		{"slice(s, 0, 1, 3, 2)", "7 slice 1 (0 1 3 2)"}, {"slice(x, 1, 2, 1, 4096)", "7 slice 0 (1 2 1 4096)"},
		{"pad(x, 1, 1, 2, 1)", "7 pad 0 (1 1 2 1)"}, {"pad(s, 0, 4089, 0, 0)", "7 pad 1 (0 4089 0 0)"}, {"pad(s, 0, 0, 0, 0)", "7 pad 1 (0 0 0 0)"},
		{"window(s, 0, 3, 2)", "7 window 1 (0 3 2)"}, {"window(s, 0, 7, 999999999)", "7 window 1 (0 7 999999999)"}, {"fold(q, 0, 2, 7)", "7 fold 2 (0 2 7)"},
		{"spread(n, [2, 3])", "7 spread 3 [2 3]"}, {"spread(x, [4, 2, 3])", "7 spread 0 [4 2 3]"}, {"spread(x, [2, 3])", "7 spread 0 [2 3]"}, {"spread(n, [])", "7 spread 3 []"},
		{"reshape(x, [6])", "7 reshape 0 [6]"}, {"reshape(x, [1, 3, 2])", "7 reshape 0 [1 3 2]"}, {"reshape(e, [])", "7 reshape 4 []"}, {"reshape(n, [1])", "7 reshape 3 [1]"},
		{"gather(x, 1, [2, 0])", "7 gather 0 (1 2 0)"}, {"gather(s, 0, [6])", "7 gather 1 (0 6)"}, {"gather(x, 0, [1, 1, 1])", "7 gather 0 (0 1 1 1)"},
		{"scatter(x, 1, 4, [3, 0, 3])", "7 scatter 0 (1 4 3 0 3)"}, {"scatter(e, 5, 4096, [4095])", "7 scatter 4 (5 4096 4095)"},
		{"fill([2, 2], 5)", "7 const [2 2] 5 5 5 5"}, {"fill([], 5)", "7 const [] 5"}, {"fill([3], 999999999)", "7 const [3] #999999999 #999999999 #999999999"}, {"fill([1,1,1,1,1,1], 0)", "7 const [1 1 1 1 1 1] 0"},
		{"contract(\"ij,kj->ik\", x, x)", "7 contract 0 0 ij,kj->ik"}, {"contract(\"->\", n)", "7 contract 3 ->"}, {"contract(\",ab->ba\", n, x)", "7 contract 3 0 ,ab->ba"}, {"contract(\"aa->a\", q)", "7 contract 2 aa->a"},
		{"contract(\"a,a,a,a,a,a->a\"" + six, "7 contract 1 1 1 1 1 1 a,a,a,a,a,a->a"}, {"contract(\"a,b->\", l, l)", "7 contract 5 5 a,b->"},
		{"relu ( x )", "7 relu 0"}, {"relu((x))", "7 relu 0"}, {"relu(-x)", "7 neg 0\n8 relu 7"}, {"relu(x + x) * 2", "7 add 0 0\n8 relu 7\n9 const [] 2\n10 spread 9 [2 3]\n11 mul 8 10"}, {"-relu(x)", "7 relu 0\n8 neg 7"},
		{"inv(step(relu(s)))", "7 relu 1\n8 step 7\n9 inv 8"}, {"sum(x) / sum(s)", "7 contract 0 ab->\n8 contract 1 a->\n9 inv 8\n10 mul 7 9"}, {"top(s - 1, 0)", "7 const [] 1\n8 spread 7 [7]\n9 sub 1 8\n10 top 9 (0)"},
		{"contract(\"a,a->\", -s, relu(s))", "7 neg 1\n8 relu 1\n9 contract 7 8 a,a->"}, {"spread(fill([1], 3), [2])", "7 const [1] 3\n8 spread 7 [2]"}, {"gather(2 * s, 0, [1]) + 3", "7 const [] 2\n8 spread 7 [7]\n9 mul 8 1\n10 gather 9 (0 1)\n11 const [] 3\n12 spread 11 [1]\n13 add 10 12"},
	}
	for _, c := range cases {
		lines := strings.Split(c.text, "\n")
		number, _, _ := strings.Cut(lines[len(lines)-1], " ")
		checkTraced(t, callLines+"out "+c.src, callNodes+c.text+"\nout "+number+"\n")
	}
	big := checkTraced(t, "let b = fill([4096], 7)", "0 const [4096]"+strings.Repeat(" 7", 4096)+"\nout\n")
	if len(big.Nodes[0].Data) != 4096 {
		t.Error("the greatest fill")
	}
}

func TestTraceOfWrongArguments(t *testing.T) {
	checkMarkedBehind(t, callLines,
		"out relu(^)", "out relu(x^, x)", "out relu(x^,)", "out relu(x^", "out relu(x^\n)", "out relu(^,x)", "out relu(^[2])", "out relu(x ^x)", "out relu(x^]", "out relu(x)^)", "out relu(x)^(x)", "out relu(x) ^x",
		"out step(^)", "out step(x^, x)", "out inv(^)", "out inv(x^, x)", "out sum(^)", "out sum(x^, x)", "out sum(x^, 0)", "out sum(^[2])",
		"out top(^)", "out top(x^)", "out top(x, ^)", "out top(x, 0^, 0)", "out top(x, ^x)", "out top(x, ^n)", "out top(x, ^-1)", "out top(x, ^(1))", "out top(x, 1 ^+ 1)", "out top(x, 0 ^* 1)", "out top(x, ^[1])", "out top(x, ^relu(x))", "out top(x, ^\"1\")", "out top(0, ^x)",
		"out slice(x^)", "out slice(x, 0, 0, 1^)", "out slice(x, 0, 0, 1, 1^, 1)", "out slice(x, 0, 0, ^x, 1)", "out slice(x, ^[0, 0, 1, 1])", "out slice(x, 0, 0, 1, ^-1)", "out slice(x ^0, 0, 1, 1)",
		"out pad(x, 0, 0, 1^)", "out pad(x, 0, 0, 1, 1^, 1)", "out pad(x, 0, ^n, 1, 1)", "out pad(x, 0, 0, 1, ^[1])", "out pad(x, ^-0, 0, 1, 1)",
		"out window(s, 0, 1^)", "out window(s, 0, 1, 1^, 1)", "out window(s, 0, ^n, 1)", "out fold(q, 0, 1^)", "out fold(q, 0, 2, 7^, 7)", "out fold(q, 0, 2, ^n)", "out fold(q, ^[0], 2, 7)",
		"out spread(x^)", "out spread(x, ^)", "out spread(x, ^2)", "out spread(x, ^x)", "out spread(x, [2,3]^, [2])", "out spread(x, [2,3]^, 2)", "out spread(^[2,3], x)", "out spread(x, ^(2))", "out spread(x, ^\"2\")", "out spread(x, [2,3] ^+ 1)",
		"out reshape(x^)", "out reshape(x, ^6)", "out reshape(x, ^s)", "out reshape(x, [6]^, [6])", "out reshape(^[6], x)",
		"out gather(x^)", "out gather(x, 1^)", "out gather(x, 1, ^1)", "out gather(x, ^[1])", "out gather(x, ^[1], 1)", "out gather(x, 1, [1]^, 1)", "out gather(x, 1, [1]^, [1])", "out gather(x, ^n, [1])", "out gather(x, 1, ^n)",
		"out scatter(x, 1^)", "out scatter(x, 1, 4^)", "out scatter(x, 1, ^[0,1,2])", "out scatter(x, 1, 4, ^0)", "out scatter(x, 1, 4, [0,1,2]^, 0)", "out scatter(x, 1, ^n, [0,1,2])", "out scatter(x, ^[0,1,2], 1, 4)",
		"out fill(^)", "out fill([2]^)", "out fill([2], ^)", "out fill([2], 1^, 1)", "out fill(^2, 2)", "out fill(^x, 2)", "out fill([2], ^n)", "out fill([2], ^[2])", "out fill([2], ^-1)", "out fill([2], ^(1))", "out fill([2], 1 ^/ 3)", "out fill(^1, [2])", "out fill(^\"2\", 2)",
		"out contract(^)", "out contract(\"->\"^)", "out contract(\"->\",^)", "out contract(\"->\" ^n)", "out contract(^n)", "out contract(^n, \"->\")", "out contract(\"->\", n^", "out contract(\"->\", n,^)", "out contract(\"->\", ^[2])", "out contract(\"->\", ^\"->\")", "out contract(\"->\", n ^\"->\")", "out contract(^[2], n)", "out contract(^1, n)", "out contract(^->, n)", "out contract(\"->\" ^+ 1, n)",
	)
}

func TestTraceOfCallsThatGiveNoTensor(t *testing.T) {
	checkMarkedBehind(t, callLines,
		"out ^top(x, 2)", "out ^top(n, 0)", "out ^top(x, 999999999)", "out ^slice(s, 1, 0, 1, 1)", "out ^slice(s, 0, 0, 0, 1)", "out ^slice(s, 0, 0, 8, 1)", "out ^slice(s, 0, 7, 1, 1)", "out ^slice(s, 0, 0, 1, 0)", "out ^slice(s, 0, 6, 1, 4097)", "out ^slice(s, 0, 0, 5, 2)",
		"out ^pad(s, 1, 0, 0, 0)", "out ^pad(s, 0, 4090, 0, 0)", "out ^pad(s, 0, 0, 4097, 0)", "out ^pad(s, 0, 0, 0, 999999999)", "out ^window(s, 0, 8, 1)", "out ^window(s, 0, 0, 1)", "out ^window(s, 0, 1, 0)", "out ^window(s, 1, 1, 1)", "out ^window(e, 0, 1, 1)",
		"out ^fold(q, 0, 2, 6)", "out ^fold(q, 1, 1, 5)", "out ^fold(s, 0, 1, 7)", "out ^fold(q, 0, 0, 7)", "out ^spread(x, [3, 2])", "out ^spread(x, [3])", "out ^spread(x, [])", "out ^spread(n, [0])", "out ^spread(n, [4097])", "out ^spread(n, [1,1,1,1,1,1,1])",
		"out ^reshape(x, [5])", "out ^reshape(x, [])", "out ^reshape(x, [6, 0])", "out ^reshape(x, [1,1,1,1,1,1,6])", "out ^gather(x, 1, [])", "out ^gather(x, 1, [3])", "out ^gather(x, 2, [0])", "out ^gather(n, 0, [0])", "out ^scatter(x, 1, 4, [0, 1])", "out ^scatter(x, 1, 4, [0, 1, 4])", "out ^scatter(x, 1, 0, [0, 0, 0])", "out ^scatter(x, 1, 4, [])", "out ^scatter(x, 1, 2049, [0, 1, 2])",
		"out ^fill([0], 1)", "out ^fill([4097], 1)", "out ^fill([64, 65], 1)", "out ^fill([1,1,1,1,1,1,1], 1)", "out ^contract(\"ab->\", s)", "out ^contract(\"a->b\", s)", "out ^contract(\"a->\", s, s)", "out ^contract(\"a,a->\", s)", "out ^contract(\"a,a->\", s, l)", "out ^contract(\"aa->\", x)", "out ^contract(\"a,b->\", l, k)", "out ^contract(\"A->\", s)", "out ^contract(\"a\", s)", "out ^contract(\"->a\", s)",
		"out ^contract(\"a,a,a,a,a,a,a->a\", s, s, s, s, s, s, s)", "out ^contract(\"a,a,a,a,a,a->a\", s, s, s, s, s, s, s)", "out ^contract(\"abcdef,a->a\", s, e)", "out ^contract(\"a,b,c,d->\", s, l, s, l)", "out sum(x) + ^top(n, 0)",
		"out relu(^top(n, 0))", "out x + ^top(n, 0)", "out -^top(n, 0)", "out ^top(n, 0) $", "out ^top(n, 0) + $", "out top(n, 0 ^$", "out top(n, 0^", "out ^top(n, 0) * top(x, 2)", "let y = ^top(n, 0)", "out contract(\"a->\", ^top(n, 0), $)", "out gather(^top(n, 0), 0, [$])", "out ^top(-n, 0)", "out top(^top(n, 0), 0)",
	)
}

func TestTraceOfDefs(t *testing.T) {
	checkTracedCases(t, []tracedCase{
		{"in x [2]\ndef f(a) = a * a\nout f(x)\nout f(f(x))", "0 input [2]\n1 mul 0 0\n2 mul 0 0\n3 mul 2 2\nout 1 3\n"},
		{"in x [2]\ndef f(a, b) = b - a\nout f(x, -x)", "0 input [2]\n1 neg 0\n2 sub 1 0\nout 2\n"},
		{"in x [2]\ndef f(a, b) = b - a\nout f(-x, x)", "0 input [2]\n1 neg 0\n2 sub 0 1\nout 2\n"},
		{"def f(a, b, c) = b\nout f(1, 2, 3)", "0 const [] 1\n1 const [] 2\n2 const [] 3\nout 1\n"},
		{"def f(a) = 7\nout f(1)\nout f(1)", "0 const [] 1\n1 const [] 7\n2 const [] 1\n3 const [] 7\nout 1 3\n"},
		{"def f() = 1 + 2\nout f() * f()", "0 const [] 1\n1 const [] 2\n2 add 0 1\n3 const [] 1\n4 const [] 2\n5 add 3 4\n6 mul 2 5\nout 6\n"},
		{"in x [2]\nin a [3]\ndef f(a) = a + 1\nout f(x) * f(x + 2)\nout f(a)", "0 input [2]\n1 input [3]\n2 const [] 1\n3 spread 2 [2]\n4 add 0 3\n5 const [] 2\n6 spread 5 [2]\n7 add 0 6\n8 const [] 1\n9 spread 8 [2]\n10 add 7 9\n11 mul 4 10\n12 const [] 1\n13 spread 12 [3]\n14 add 1 13\nout 11 14\n"},
		{"def f(a) = -a\ndef g(b) = f(b) * f(f(b))\nout g(3)", "0 const [] 3\n1 neg 0\n2 neg 0\n3 neg 2\n4 mul 1 3\nout 4\n"},
		{"def f(a, b) = a - b\ndef g(a, b) = f(b, a)\nout g(1, 2)", "0 const [] 1\n1 const [] 2\n2 sub 1 0\nout 2\n"},
		{"def f(f) = f\ndef g(f) = f(f(f))\nout g(1)", "0 const [] 1\nout 0\n"},
		{"def f(relu) = relu(relu)\nout f(1)", "0 const [] 1\n1 relu 0\nout 1\n"},
		{"in x [2]\ndef x(x) = x + x\nlet x = x(x)\nout x(x)", "0 input [2]\n1 add 0 0\n2 add 1 1\nout 2\n"},
		{"in x [2]\ndef f(a) = contract(\"i,i->\", a, a)\ndef g(a) = gather(spread(a, [3]), 0, [1])\nout g(f(x))", "0 input [2]\n1 contract 0 0 i,i->\n2 spread 1 [3]\n3 gather 2 (0 1)\nout 3\n"},
		{"in m [2,3]\nin v [3]\ndef s(a) = sum(a)\nout s(m)\nout s(v)\nout s(s(v))", "0 input [2 3]\n1 input [3]\n2 contract 0 ab->\n3 contract 1 a->\n4 contract 1 a->\n5 contract 4 ->\nout 2 3 5\n"},
		{"def f(a) = fill([0], 1)\ndef g(a) = contract(\"what\", a)\ndef h(a) = top(1, 5) + f(a)\nout 1", "0 const [] 1\nout 0\n"},
		{"def f(a) = a # + a\nout f(1) # f(\n", "0 const [] 1\nout 0\n"},
		{"in x [2]\ndef f(a)=(a)*-a/(a-a)\nout f(x)", "0 input [2]\n1 neg 0\n2 mul 0 1\n3 sub 0 0\n4 inv 3\n5 mul 2 4\nout 5\n"},
	})
}

func TestTraceOfWrongDefs(t *testing.T) {
	for _, name := range strings.Fields("relu step inv sum top slice pad window fold spread reshape gather scatter fill contract") {
		checkMarked(t, "def ^"+name+"(a) = a", "def ^"+name+" $", "def ^"+name, "def f(a) = a\n def ^"+name+"(b) = b\n")
		checkTraced(t, "let "+name+" = 1\nin "+name+" [2]\ndef f("+name+") = -"+name+"\nout f("+name+")", "0 const [] 1\n1 input [2]\n2 neg 1\nout 2\n")
	}
	checkMarked(t,
		"def f(a) = a\ndef ^f(a) = a", "def f(a) = a\ndef ^f() = 1", "def f(a) = a\ndef ^f", "def f(a) = a\ndef g(a) = a\ndef ^f $", "def f(a, ^a) = a", "def f(a, b, ^a) = a", "def f(a, b, ^b, c) = a", "def f(a, ^a",
		"def f(^,) = 1", "def f(^,a) = 1", "def f(a,^) = 1", "def f(a ^b) = 1", "def f(a,^,b) = 1", "def f(^1) = 1", "def f(^[a]) = 1", "def f(^(a)) = 1", "def f^= 1", "def f^[] = 1", "def f()^", "def f() ^1", "def f()^) = 1", "def ^(a) = a", "def ^1(a) = a", "def f(a) = ^", "def f(a) = ^\na", "def f(a) = a ^a", "def f(a) = a^)",
		"def f(a) = ^f(a)", "def f(a) = a * ^f(a)", "def f(a) = ^f", "def f() = ^f()", "in x [2]\ndef f(a) = ^x", "in x [2]\ndef f(a) = a + ^x", "let x = 1\ndef f() = ^x", "def f(a) = ^b", "def f(a) = a\ndef g(b) = ^a", "def f(a) = a\ndef g(b) = ^f", "def f(a) = ^g(a)\ndef g(a) = a", "def f(a) = ^a(a)", "def f(a) = relu(^b)", "def f(a) = ^h($)", "out ^f(1)\ndef f(a) = a",
		"def f(a) = relu(a^, a)", "def f(a) = relu(^)", "def f(a) = top(a, ^a)", "def f(a) = spread(a, ^a)", "def f(a) = contract(^a, a)", "def f(a) = contract(\"->\"^)", "def f(a) = fill([^a], 1)", "def f(a) = (a^", "def f(a) = -^", "def f(a) = fill([0], 1) ^$", "def f(a) = (top(a, 0) + ^$",
		"def f(a, b) = a\nout f(^)", "def f(a, b) = a\nout f(1^)", "def f(a, b) = a\nout f(1,^)", "def f(a, b) = a\nout f(1, 2^, 3)", "def f(a, b) = a\nout f(1, 2^,)", "def f(a, b) = a\nout f(1 ^2)", "def f() = 1\nout f(^1)", "def f() = 1\nout f(^,)", "def f() = 1\nout f(^", "def f() = 1\nout f(^\n)", "def f(a) = a\nout f(^[2])", "def f(a) = a\nout f(^\"a\")", "def f(a) = a\nout f(1^, 1)", "def f(a) = a\nout f(^)",
		"def f(a, b) = a\ndef g(a) = f(a^)", "def f(a, b) = a\ndef g(a) = f(a, a^, a)", "def f(a, b) = a\ndef g(a) = f(^)", "def f() = 1\ndef g(a) = f(^a)", "def f(a) = a\nout f(^b)", "def f(a) = a\nout f(^a)", "def f(a) = a\nout f(1) + ^a",
	)
}

func TestTraceOfDefsThatGiveNoTensor(t *testing.T) {
	ahead := "in x [2]\nin y [3]\ndef add(a, b) = a + b\ndef axis(a) = top(a, 1)\ndef twice(a) = axis(a) + axis(a)\ndef none() = fill([0], 1)\ndef form(a) = contract(\"b->\", a)\ndef deep(a) = -twice(-a)\ndef id(a) = a\ndef argument(a) = id(axis(a))\n"
	checkMarkedBehind(t, ahead,
		"out ^add(x, y)", "out add(x, x) + ^add(x, y)", "out ^add(x, y) + add(x, x)", "out add(x, x) ^+ y", "out ^axis(x)", "out ^twice(x)", "out ^none()", "out ^deep(x)", "out 1 + ^deep(x)", "out form(x) + ^form(1)", "out ^argument(x)", "out -(2 * ^argument(x))", "out (^axis(x))",
		"out id(^axis(x))", "out id(id(^axis(x)))", "out add(^axis(x), y)", "out add(x, ^axis(y))", "out add(^top(x, 1), x)", "out add(x, ^top(x, 1))", "out add(x ^+ y, $)", "out id(x ^+ y)", "out axis(x ^+ y)", "out ^axis(id(x))", "out ^axis(id(x)) + axis(y)", "out id(^none())", "out id(-^none())",
		"out relu(^none())", "out contract(\"->\", ^none())", "out ^none() $", "out ^none() + $", "out none(^$", "out none(^", "let z = ^axis(x)", "out add(x, y^", "out add(x, y^\n)", "out add(x, y ^$", "out ^axis(x)\nout $", "def more(a) = axis(a)\nout 1 + ^more(x)",
	)
	checkTraced(t, ahead+"out add(x, x)\nout form(x)\nin m [2,2]\nout twice(m)\nout argument(m)", "0 input [2]\n1 input [3]\n2 add 0 0\n3 contract 0 b->\n4 input [2 2]\n5 top 4 (1)\n6 top 4 (1)\n7 add 5 6\n8 top 4 (1)\nout 2 3 7 8\n")
}

// letLines are lines that put so many nodes, which are numbers; a stands for the
// last.
func letLines(count int) string { return strings.Repeat("let a=1\n", count) }

func TestTraceAtMaxNodes(t *testing.T) {
	ahead := "in x [2]\ndef id(b) = b\ndef neg(b) = -b\ndef two(b) = neg(neg(b))\ndef one() = 1\ndef half(b) = b / 2\n"
	// Each row puts so many nodes at the marked place, behind so many others.
	rows := []struct {
		others int
		marked string
		count  int
	}{
		{0, "in y ^[2]", 1}, {0, "in y ^[]\nout y", 1}, {0, "out ^7", 1}, {0, "let y = ^7", 1}, {0, "out ^-x", 1}, {1, "out ^-(-x)", 1}, {0, "out -(^-x)", 1}, {1, "out ^-2", 1}, {0, "out x ^+ x", 1}, {0, "out x ^- x", 1}, {0, "out x ^* x", 1}, {0, "out x ^/ x", 2},
		{1, "out x ^+ 1", 2}, {1, "out 1 ^- x", 2}, {1, "out x ^/ 2", 3}, {1, "out 2 ^/ x", 3}, {0, "out ^relu(x)", 1}, {0, "out ^step(x)", 1}, {0, "out ^inv(x)", 1}, {0, "out ^sum(x)", 1}, {0, "out ^top(x, 0)", 1}, {0, "out ^slice(x, 0, 0, 1, 1)", 1}, {0, "out ^pad(x, 0, 1, 1, 1)", 1},
		{0, "out ^window(x, 0, 1, 1)", 1}, {1, "out ^fold(window(x, 0, 1, 1), 0, 1, 2)", 1}, {0, "out ^spread(x, [2])", 1}, {0, "out ^reshape(x, [1,2])", 1}, {0, "out ^gather(x, 0, [1])", 1}, {0, "out ^scatter(x, 0, 3, [1, 2])", 1}, {0, "out ^fill([2], 1)", 1}, {0, "out ^contract(\"a->\", x)", 1},
		{1, "out ^relu(-x)", 1}, {0, "out relu(^-x)", 1}, {1, "out -x ^+ x", 1}, {0, "out ^neg(x)", 1}, {0, "out ^two(x)", 2}, {0, "out ^one()", 1}, {0, "out ^half(x)", 4}, {1, "out id(-x) ^+ x", 1}, {0, "out id(^-x)", 1}, {1, "out ^neg(-x)", 1}, {0, "out neg(^-x)", 1}, {0, "out id(^neg(x))", 1}, {0, "out neg(^neg(x))", 1}, {2, "out x + neg(x) ^* neg(x)", 1},
	}
	for _, row := range rows {
		before, behind, _ := strings.Cut(row.marked, "^")
		left := 200 - 1 - row.others
		for room := range row.count {
			lines := ahead + letLines(left-room)
			checkPlace(t, lines+before+behind, len(lines+before))
			checkPlace(t, lines+before+behind+" $\n", len(lines+before))
		}
		// With room for all of it there is a graph, unless more of it follows.
		lines := ahead + letLines(left-row.count)
		g, at := impl.Trace(lines + before + behind)
		if at == len(lines+before) {
			t.Errorf("Trace(%q) is %d", row.marked, at)
		}
		if at == -1 && (len(g.Nodes) != 200 || !impl.GraphOk(g)) {
			t.Errorf("Trace(%q) has %d nodes", row.marked, len(g.Nodes))
		}
	}
	full := letLines(200)
	checkTraced(t, full+"out a\nlet b = a\ndef f(c) = -c * 2\ndef g(c) = c\nout g((b))", wantText(impl.Graph{Nodes: slices.Repeat([]impl.Node{constNode(nil, 1)}, 200), Outs: ints(199, 199)}))
	checkMarkedBehind(t, full, "in x [^$]", "out -^$", "out relu(a^", "out ^1 + b", "out a ^+ a + b", "out a + ^b + a", "out ^relu(a) + $", "out relu(a^, a)", "out ^fill([0], 1)", "in x ^[0]")
}

func TestTraceAtMaxOuts(t *testing.T) {
	outs := "in x [2]\n" + strings.Repeat("out x\n", 40)
	checkTraced(t, outs, wantText(graphOf(noughts(40), inputNode(2))))
	checkTraced(t, outs+"let y = x\ndef f(a) = a\nin z []", wantText(graphOf(noughts(40), inputNode(2), inputNode())))
	checkMarkedBehind(t, outs, "^out x", "^out x\n", "  ^out -x", "^out relu(x) + 1", "^out x $", "^out x x", "^out x)", "^out (x) \"", "let y = x\n^out y\nout y\nout $", "out ^y", "out ^$", "out ^", "out x + ^", "out x ^* fill([3], 1)", "out ^top(x, 1)", "out (x^", "def f(a) = -a\n^out f(x)", "def f(a) = top(a, 1)\nout ^f(x)")
	checkMarkedBehind(t, outs+letLines(199), "out ^1", "^out x", "out ^-x")
}

// callsOf has macros of one call, ten and ninety-one, none of which puts a node.
const callsOf = "def one(x) = x\ndef ten(x) = one(one(one(one(one(one(one(one(one(x)))))))))\ndef many(x) = ten(ten(ten(ten(ten(ten(ten(ten(ten(x)))))))))\nin y [2]\n"

func TestTraceAtMaxCalls(t *testing.T) {
	most := callsOf + strings.Repeat("let y = many(y)\n", 10) + strings.Repeat("let y = ten(y)\n", 9)
	text := "0 input [2]\nout 0\n"
	checkTraced(t, most+"out y", text)
	checkTraced(t, most+"def more(x) = one(x) + many(ten(x))\ndef none() = 1\nlet z = y\nout z", text)
	checkMarkedBehind(t, most, "out ^one(y)", "out ^ten(y)", "let y = ^many(y)", "out ^one(y) $", "out one(^$", "out one(y^", "out one(y ^z", "out one(^z)", "out one(^top(y, 1))", "out one(^one(y))", "out relu(^one(y))", "out -^one(y)", "out y + ^one(y)", "out ^one(-y)", "def f(x) = ten(x)\nout ^f(y)", "def g() = one(2)\nout ^g()")
	one := callsOf + strings.Repeat("let y = many(y)\n", 10) + strings.Repeat("let y = ten(y)\n", 8) + strings.Repeat("let y = one(y)\n", 9)
	checkTraced(t, one+"out one(y)", text)
	checkMarkedBehind(t, one, "out ^one(one(y))", "out ^ten(y)", "out one(y) + ^one(y)", "let z = one(y)\nout ^one(y)", "out one(^one(one(y)))", "def f(x) = one(x)\nout ^f(y)", "def f(x) = x\nout f(y) + ^f(y)", "out one(y ^+ fill([3], 1))")
	nested := callsOf + "out many(many(many(many(many(many(many(many(many(many(" + strings.Repeat("ten(", 9) + "y" + strings.Repeat(")", 19)
	checkTraced(t, nested, text)
}

func TestTraceAtMaxDeep(t *testing.T) {
	repeat := func(part string, count int) string { return strings.Repeat(part, count) }
	for _, ahead := range []string{"out ", "let z = ", "out 1 + ", "out 2 * 3 - ", "in x [2]\ndef f(a) = ", "def f() = 1\ndef g(a) = a\nout "} {
		for _, open := range []string{"(", "relu(", "-(", "(-", "(relu(-", "-relu((", "sum(step(inv(", "gather(pad(", "contract(\"->\", "} {
			// What the parts open is counted by their ( and their - of factors.
			each := strings.Count(open, "(") + strings.Count(open, "-") - strings.Count(open, "->")
			parts := 40 / each
			left := 40 - parts*each
			shut := repeat(")", left+parts*strings.Count(open, "("))
			full := ahead + repeat("(", left) + repeat(open, parts)
			if !strings.HasPrefix(open, "gather") {
				if _, at := impl.Trace(full + "1" + shut); at != -1 {
					t.Errorf("Trace(%q) is %d", full+"1"+shut, at)
				}
			}
			for _, more := range []string{"(1)", "(", "($)", "-1", "-", "-$", "relu(1)", "relu(", "relu($)", "relu(relu(1))", "((1))", "--1", "relu(-1)"} {
				checkPlace(t, full+more+shut, len(full))
				if strings.HasSuffix(open, "-") {
					// Behind its factor a - is not open any more.
					continue
				}
				checkPlace(t, full+"1 * "+more, len(full)+4)
				checkPlace(t, full+"1 - 1 - "+more, len(full)+8)
			}
		}
	}
	forty := repeat("(", 20) + repeat("-", 10) + repeat("(", 10) + "1" + repeat(")", 30)
	checkTraced(t, "out "+repeat("(", 40)+"1"+repeat(")", 40), "0 const [] 1\nout 0\n")
	checkTraced(t, "out "+repeat("("+repeat("(", 39)+"1"+repeat(")", 39)+")+", 3)+"1", "0 const [] 1\n1 const [] 1\n2 add 0 1\n3 const [] 1\n4 add 2 3\n5 const [] 1\n6 add 4 5\nout 6\n")
	if _, at := impl.Trace("out " + forty + " - " + forty + " * -" + forty[1:len(forty)-1] + "\nout " + forty); at != -1 {
		t.Errorf("what is shut is counted: %d", at)
	}
	checkMarked(t, "out "+repeat("-", 40)+"^-1", "out "+repeat("(", 40)+"^(1", "out "+repeat("relu(", 40)+"^relu(1", "out "+forty+" - ("+forty[:39]+"^"+forty[39:]+")", "def f(a) = "+repeat("-", 40)+"^-a", "def f(a) = "+repeat("relu(", 40)+"^relu(a)", "out "+repeat("(", 40)+"^q(1)")
}

func TestTraceAtMaxDeepOfDefs(t *testing.T) {
	repeat := func(part string, count int) string { return strings.Repeat(part, count) }
	// body is a def's EXPR that opens so many.
	body := func(count int) string { return repeat("(", count) + "a" + repeat(")", count) }
	for count := range 41 {
		ahead := "def f(a) = " + body(count) + "\ndef g(a) = f(a)\ndef h(a) = (g(a))\n"
		for _, call := range []struct {
			name string
			own  int
		}{{"f", 1}, {"g", 2}, {"h", 4}} {
			most := 40 - count - call.own
			if most < 0 {
				checkPlace(t, ahead+"out "+call.name+"(1)", len(ahead)+4)
				checkPlace(t, ahead+"out 1 + "+call.name+"(1) $", len(ahead)+8)
				continue
			}
			checkTraced(t, ahead+"out "+repeat("(", most)+call.name+"(1)"+repeat(")", most), "0 const [] 1\nout 0\n")
			deeper := ahead + "out " + repeat("(", most+1)
			checkPlace(t, deeper+call.name+"(1)"+repeat(")", most+1), len(deeper))
			checkPlace(t, deeper+call.name+"(1) $", len(deeper))
			if most+2 <= 40 {
				checkPlace(t, deeper+call.name+"(1 $", len(deeper)+4)
			} else {
				checkPlace(t, deeper+call.name+"(1 $", len(deeper))
			}
		}
	}
	lines := "def f1(a) = a\n"
	for n := 2; n <= 41; n++ {
		lines += "def f" + strconv.Itoa(n) + "(a) = f" + strconv.Itoa(n-1) + "(a)\n"
	}
	checkTraced(t, lines+"out f40(1)", "0 const [] 1\nout 0\n")
	checkTraced(t, lines+"out f39(f39(1)) + (f39(2))", "0 const [] 1\n1 const [] 2\n2 add 0 1\nout 2\n")
	checkMarkedBehind(t, lines, "out ^f41(1)", "out (^f40(1))", "out -^f40(1)", "out relu(^f40(1))", "out f1(^f40(1))", "out ^f41(f39(1))", "out ^f41(1) + f41($)", "out f41(^$)", "out f40(1) + ^f41(1)", "let x = -f39(-^f39(1))")
	// An argument of a call within a def counts from the outer calls on, too.
	arguments := "def f(a) = a\ndef g(a) = " + repeat("f(", 39) + "a" + repeat(")", 39) + "\ndef h(a) = " + repeat("f(", 40) + "a" + repeat(")", 40) + "\n"
	checkTraced(t, arguments+"out g(1)", "0 const [] 1\nout 0\n")
	checkMarkedBehind(t, arguments, "out (^g(1))", "out ^h(1)", "out f(^g(1))", "out g(^g(1))", "def k(a) = "+repeat("f(", 40)+"^f(a)", "def k(a) = "+repeat("-f(", 20)+"^-a")
}

func TestTraceAtMaxSource(t *testing.T) {
	src := "in x [2]\nout x\n"
	text := "0 input [2]\nout 0\n"
	for _, filler := range []string{"\n", " ", "#"} {
		full := src + strings.Repeat(filler, 4000-len(src))
		checkTraced(t, full, text)
		checkPlace(t, full+filler, 0)
		checkPlace(t, full+"\n", 0)
		front := strings.Repeat("\n", 4000-len(src)) + src
		checkTraced(t, front, text)
		checkPlace(t, filler+front, 0)
		if impl.Named(full, "x") != 0 || impl.Named(full+filler, "x") != -1 {
			t.Error("Named of the longest source")
		}
	}
	wrong := strings.Repeat(" ", 3999) + "$"
	checkPlace(t, wrong, 3999)
	checkPlace(t, wrong+"$", 0)
	checkPlace(t, strings.Repeat(" ", 3997)+"out", 4000)
	checkPlace(t, strings.Repeat("$", 4001), 0)
	checkPlace(t, strings.Repeat("(", 1<<20), 0)
}

// Of two things that are wrong, that one is told to which reading comes first,
// though the other one may stand ahead of it.
func TestTraceOfTwoThingsWrong(t *testing.T) {
	checkMarkedBehind(t, "in x [2]\nin y [3]\nin n []\ndef f(a) = top(a, 1)\n",
		"out ^$ $", "out ^a + b", "in z ^[0]\nin w [0]", "in ^1 [0]", "in z [0^;", "let ^in = $", "let z ^x = $", "out x ^+ y + $", "out x + ^$ + y", "out x + (y ^$)", "out (x ^+ y) $", "out (x ^+ y $", "out (x ^+ y", "out x + (^", "out x ^* y + x + y",
		"out x + x ^* y", "out x ^+ y - a", "out top(x ^+ y, 5)", "out ^top(n, 0) + top(n, 1)", "out n + ^top(n, 0) + (x + y)", "out top(n, ^a)", "out top(^a, 5)", "out ^f(x) + (x + y)", "out (x ^+ y) + f(x)", "out f(x ^+ y)", "out f(^f(x))", "out f(f(x^, x))", "out f(x^, x) + $", "out ^g(x + y)", "out f(^g(x + y))",
		"out -^top(n, 0)", "out -(x ^+ y)", "out contract(\"?\", ^a)", "out contract(\"?\", x ^+ y)", "out ^contract(\"?\", x) + $", "out contract(\"?\", x^; y)", "out fill([0], ^a)", "out fill([0 ^0], 1)", "def ^f(a) = $", "def g(a, ^a) = $", "def g(a) = ^b + $", "def g(a) = top(1, 7) + ^$", "def g(a) = a\nout ^g + $", "out x / (y ^/ x)", "out x ^/ y / $",
	)
}

func TestNamed(t *testing.T) {
	src := "in x [2]\nlet y = -x\nin z [3]\ndef f(a, b) = a\nlet x = y * 2\nlet w = f(z, 1)\nin q [1]\ndef y(c) = c\nlet relu = 5\nlet q = q\nlet both = x\nin both []\n# let note = 1\nout z\n"
	want := map[string]int{"x": 5, "y": 1, "z": 2, "w": 2, "q": 7, "relu": 8, "both": 9}
	for _, name := range append(strings.Fields("f a b c note sum X in let def out 1 2 _ x_ xx"), "", " ", "x ", " x", "\n", "in x", "x [2]", "relu(", "\x00", "é", strings.Repeat("x", 5000)) {
		want[name] = -1
	}
	for name, number := range want {
		if got := impl.Named(src, name); got != number {
			t.Errorf("Named(%q, %q) = %d, not %d", src, name, got, number)
		}
		for _, wrong := range []string{src + "$", src + "out v", src + "let q = q + v", "$" + src, src + strings.Repeat("\n", 4000)} {
			if got := impl.Named(wrong, name); got != -1 {
				t.Errorf("Named(%q, %q) = %d", wrong, name, got)
			}
		}
		for _, notes := range noteLines() {
			if got := impl.Named(notes+src, name); got != number {
				t.Errorf("behind notes Named(.., %q) = %d, not %d", name, got, number)
			}
		}
	}
	for _, src := range []string{"", "\n", "out 1", "def x(x) = x\nout x(1)"} {
		if got := impl.Named(src, "x"); got != -1 {
			t.Errorf("Named(%q, x) = %d", src, got)
		}
	}
}

// A phrase is what an EXPR is made of, as it was thought up: kind is '0' of a
// number, 'a' of a NAME, '-' of a - and a factor, '(' of brackets, '+' of an
// operator and 'f' of a call. Its text are the digits, the NAME or the sign. When
// it is written, at becomes the place of the piece that asks for its node.
type phrase struct {
	kind    byte
	text    string
	parts   []*phrase
	numbers []int
	list    []int
	quote   string
	at      int
}

func (p *phrase) copied() *phrase {
	made := *p
	made.parts, made.numbers, made.list = nil, slices.Clone(p.numbers), slices.Clone(p.list)
	for _, part := range p.parts {
		made.parts = append(made.parts, part.copied())
	}
	return &made
}

// all gives the phrase and all that it is made of.
func (p *phrase) all() []*phrase {
	list := []*phrase{p}
	for _, part := range p.parts {
		list = append(list, part.all()...)
	}
	return list
}

func inBrackets(p *phrase) *phrase { return &phrase{kind: '(', parts: []*phrase{p.copied()}} }

// negated and paired put brackets where the parts would be read otherwise.
func negated(p *phrase) *phrase {
	if p.kind == '+' {
		p = inBrackets(p)
	}
	return &phrase{kind: '-', text: "-", parts: []*phrase{p.copied()}}
}

func paired(sign string, x *phrase, y *phrase) *phrase {
	sums := func(p *phrase) bool { return p.kind == '+' && strings.Contains("+-", p.text) }
	products := strings.Contains("*/", sign)
	if products && sums(x) {
		x = inBrackets(x)
	}
	if products && y.kind == '+' || sums(y) {
		y = inBrackets(y)
	}
	return &phrase{kind: '+', text: sign, parts: []*phrase{x.copied(), y.copied()}}
}

// callKinds tell the arguments of the built-in calls: x an EXPR, X one or more, n
// a number, l a LIST, q a QUOTE.
func callKinds() map[string]string {
	return map[string]string{
		"relu": "x", "step": "x", "inv": "x", "sum": "x", "top": "xn", "slice": "xnnnn", "pad": "xnnnn", "window": "xnnn", "fold": "xnnn",
		"spread": "xl", "reshape": "xl", "gather": "xnl", "scatter": "xnnl", "fill": "ln", "contract": "qX",
	}
}

// A modelLine is a line as it was thought up; at is the place of its word, of an
// in that of its [.
type modelLine struct {
	word  string
	name  string
	dims  []int
	names []string
	body  *phrase
	at    int
}

func copiedLines(lines []*modelLine) []*modelLine {
	list := []*modelLine{}
	for _, l := range lines {
		made := *l
		made.dims, made.names = slices.Clone(l.dims), slices.Clone(l.names)
		if l.body != nil {
			made.body = l.body.copied()
		}
		list = append(list, &made)
	}
	return list
}

// A pen writes lines. At each piece it marks which kinds of pieces may stand
// there: a sign or newline by itself, w a word that begins a line, a a NAME, 0 a
// number, q a quote, $ the end; ? leaves that open.
type pen struct {
	source *rand.Rand
	text   string
	marks  []penMark
	named  bool // a NAME was written that is no call
}

type penMark struct {
	at  int
	may string
}

func isWordByte(b byte) bool {
	return b == '_' || b >= '0' && b <= '9' || b >= 'a' && b <= 'z' || b >= 'A' && b <= 'Z'
}

func (w *pen) put(piece string, may string) int {
	if w.text != "" && isWordByte(w.text[len(w.text)-1]) && isWordByte(piece[0]) {
		w.text += " "
	}
	w.text += strings.Repeat(" ", w.source.Intn(6)/4)
	if w.named {
		// A ( would make the NAME that of a call.
		may += "("
	}
	w.named = false
	w.marks = append(w.marks, penMark{len(w.text), may})
	if piece == "\n" && w.source.Intn(5) == 0 {
		w.text += []string{"#", "# note", "#\"(", "  # in x [2]"}[w.source.Intn(4)]
	}
	at := len(w.text)
	w.text += piece
	return at
}

const (
	factorStarts = "-(0a"
	operators    = "+-*/"
)

// expr writes a phrase behind which one of the closers may stand.
func (w *pen) expr(p *phrase, closers string) {
	switch p.kind {
	case '0':
		p.at = w.put(p.text, factorStarts)
	case 'a':
		p.at = w.put(p.text, factorStarts)
		w.named = true
	case '-':
		p.at = w.put("-", factorStarts)
		w.expr(p.parts[0], closers)
	case '(':
		p.at = w.put("(", factorStarts)
		w.expr(p.parts[0], ")")
		w.put(")", operators+")")
	case '+':
		w.expr(p.parts[0], closers)
		p.at = w.put(p.text, operators+closers)
		w.expr(p.parts[1], closers)
	case 'f':
		w.call(p)
	}
}

func (w *pen) call(p *phrase) {
	p.at = w.put(p.text, factorStarts)
	w.put("(", "?")
	kinds, found := callKinds()[p.text]
	if !found {
		kinds = strings.Repeat("x", len(p.parts))
	}
	parts, numbers, may := p.parts, p.numbers, ")"
	for i, kind := range kinds {
		if i > 0 {
			w.put(",", may)
		}
		may = ","
		if i == len(kinds)-1 {
			may = ")"
		}
		switch kind {
		case 'x':
			w.expr(parts[0], may)
			parts, may = parts[1:], operators+may
		case 'X':
			may = operators + ",)"
			for k, part := range parts {
				if k > 0 {
					w.put(",", may)
				}
				w.expr(part, ",)")
			}
		case 'n':
			w.put(strconv.Itoa(numbers[0]), "0")
			numbers = numbers[1:]
		case 'l':
			w.list(p.list)
		case 'q':
			w.put("\""+p.quote+"\"", "q")
		}
	}
	w.put(")", may)
}

func (w *pen) list(list []int) int {
	at := w.put("[", "[")
	may := "0]"
	for i, x := range list {
		if i > 0 {
			w.put(",", ",]")
			may = "0"
		}
		w.put(strconv.Itoa(x), may)
		may = ",]"
	}
	w.put("]", may)
	return at
}

const lineStarts = "w\n$"

func (w *pen) line(l *modelLine) {
	for range w.source.Intn(6) / 4 {
		w.put("\n", lineStarts)
	}
	l.at = w.put(l.word, lineStarts)
	if l.word != "out" {
		w.put(l.name, "a")
	}
	switch l.word {
	case "in":
		l.at = w.list(l.dims)
		w.put("\n", "\n$")
		return
	case "let":
		w.put("=", "=")
	case "def":
		w.put("(", "(")
		may := "a)"
		for i, name := range l.names {
			if i > 0 {
				w.put(",", ",)")
				may = "a"
			}
			w.put(name, may)
			may = ",)"
		}
		w.put(")", may)
		w.put("=", "=")
	}
	w.expr(l.body, "\n$")
	w.put("\n", operators+"\n$")
}

func written(source *rand.Rand, lines []*modelLine) *pen {
	w := &pen{source: source}
	for _, l := range lines {
		w.line(l)
	}
	return w
}

// A toldPlace is thrown where a wantedTrace finds something wrong.
type toldPlace int

// A wantedTrace traces lines that were written, by the document's words.
type wantedTrace struct {
	nodes  []impl.Node
	values []impl.Tensor
	outs   []int
	names  map[string]int
	defs   map[string]*modelLine
	calls  int
}

// wantTrace gives the graph, the nodes of the names, and -1 or the place.
func wantTrace(lines []*modelLine) (g impl.Graph, names map[string]int, place int) {
	defer func() {
		if told, ok := recover().(toldPlace); ok {
			g, names, place = impl.Graph{}, nil, int(told)
		}
	}()
	w := &wantedTrace{names: map[string]int{}, defs: map[string]*modelLine{}}
	for _, l := range lines {
		w.line(l)
	}
	return graphOf(w.outs, w.nodes...), w.names, -1
}

func (w *wantedTrace) line(l *modelLine) {
	switch l.word {
	case "in":
		w.names[l.name] = w.node(l.at, inputNode(l.dims...))
	case "let":
		w.names[l.name] = w.value(l.body, w.names, 0, -1)
	case "def":
		w.look(l.body, l.names, 0)
		w.defs[l.name] = l
	case "out":
		number := w.value(l.body, w.names, 0, -1)
		if len(w.outs) == 40 {
			panic(toldPlace(l.at))
		}
		w.outs = append(w.outs, number)
	}
}

func (w *wantedTrace) node(at int, n impl.Node) int {
	args := []impl.Tensor{}
	for _, arg := range n.Args {
		args = append(args, w.values[arg])
	}
	value := wantNode(n, args)
	if len(w.nodes) == 200 || !wantTensorOk(value) {
		panic(toldPlace(at))
	}
	w.nodes, w.values = append(w.nodes, n), append(w.values, value)
	return len(w.nodes) - 1
}

func (w *wantedTrace) mayCall(p *phrase) bool {
	return callKinds()[p.text] != "" || w.defs[p.text] != nil
}

// look goes through a def's EXPR when it is defined.
func (w *wantedTrace) look(p *phrase, names []string, deep int) {
	if p.kind == '-' || p.kind == '(' || p.kind == 'f' {
		deep++
	}
	if deep > 40 || p.kind == 'a' && !slices.Contains(names, p.text) || p.kind == 'f' && !w.mayCall(p) {
		panic(toldPlace(p.at))
	}
	for _, part := range p.parts {
		w.look(part, names, deep)
	}
}

// value gives the node that a phrase is; call is the place of the outermost call
// of a def within which it stands, or -1.
func (w *wantedTrace) value(p *phrase, names map[string]int, deep int, call int) int {
	at := p.at
	if call >= 0 {
		at = call
	}
	if p.kind == '-' || p.kind == '(' || p.kind == 'f' {
		deep++
	}
	if deep > 40 || p.kind == 'f' && !w.mayCall(p) {
		panic(toldPlace(at))
	}
	if p.kind == 'a' {
		number, found := names[p.text]
		if !found {
			panic(toldPlace(at))
		}
		return number
	}
	args := []int{}
	for _, part := range p.parts {
		args = append(args, w.value(part, names, deep, call))
	}
	switch p.kind {
	case '0':
		x, _ := strconv.Atoi(p.text)
		return w.node(at, constNode(nil, x))
	case '-':
		return w.node(at, argsNode(6, args[0]))
	case '(':
		return args[0]
	case '+':
		return w.pair(at, p.text, args[0], args[1])
	}
	def := w.defs[p.text]
	if def == nil {
		return w.node(at, builtInNode(p, args, w.values))
	}
	w.calls++
	if w.calls > 1000 {
		panic(toldPlace(at))
	}
	own := map[string]int{}
	for i, name := range def.names {
		own[name] = args[i]
	}
	return w.value(def.body, own, deep, at)
}

func (w *wantedTrace) pair(at int, sign string, x int, y int) int {
	if sign == "/" {
		y = w.node(at, argsNode(7, y))
	}
	op := map[string]int{"+": 3, "-": 4, "*": 5, "/": 5}[sign]
	a, b := w.values[x].Dims, w.values[y].Dims
	if slices.Equal(a, b) {
		return w.node(at, argsNode(op, x, y))
	}
	joint := wantJoint(a, b)
	if joint == nil {
		panic(toldPlace(at))
	}
	if !slices.Equal(a, joint) {
		x = w.node(at, dimsNode(12, x, joint...))
	}
	if !slices.Equal(b, joint) {
		y = w.node(at, dimsNode(12, y, joint...))
	}
	return w.node(at, argsNode(op, x, y))
}

func builtInNode(p *phrase, args []int, values []impl.Tensor) impl.Node {
	switch p.text {
	case "sum":
		return formNode("abcdef"[:len(values[args[0]].Dims)]+"->", args...)
	case "contract":
		return formNode(p.quote, args...)
	case "fill":
		filled := built(p.list, func([]int) int { return p.numbers[0] })
		return constNode(filled.Dims, filled.Data...)
	case "spread", "reshape":
		return dimsNode(slices.Index(opWords(), p.text), args[0], p.list...)
	case "relu", "step", "inv":
		return argsNode(slices.Index(opWords(), p.text), args[0])
	}
	return intsNode(slices.Index(opWords(), p.text), args[0], slices.Concat(p.numbers, p.list)...)
}

// phraseOf gives a call, of phrases, that asks for a node; nil where there is no
// such call.
func phraseOf(n impl.Node, pool []*phrase) *phrase {
	if n.Op < 7 || n.Op > 19 {
		return nil
	}
	p := &phrase{kind: 'f', text: opWords()[n.Op], quote: n.Form}
	for _, arg := range n.Args {
		p.parts = append(p.parts, pool[arg].copied())
	}
	kinds := callKinds()[p.text]
	numbers := min(strings.Count(kinds, "n"), len(n.Ints))
	p.numbers, p.list = n.Ints[:numbers], slices.Concat(n.Dims, n.Ints[numbers:])
	if len(p.numbers) != strings.Count(kinds, "n") {
		return nil
	}
	return p
}

// A modelMaker thinks up lines. All names that stand, and those of the defs, have
// the shapes that it had in mind.
type modelMaker struct {
	source *rand.Rand
	lines  []*modelLine
	names  map[string][]int
	defs   map[string]*modelLine
	shapes map[string][][]int
}

// valueIn says what a phrase gives where names of these shapes stand.
func (m *modelMaker) valueIn(p *phrase, names map[string][]int) (value impl.Tensor) {
	defer func() {
		if _, told := recover().(toldPlace); told {
			value = impl.Tensor{}
		}
	}()
	w := &wantedTrace{defs: m.defs}
	numbers := map[string]int{}
	for name, dims := range names {
		numbers[name] = w.node(0, inputNode(dims...))
	}
	return w.values[w.value(p, numbers, 0, -1)]
}

// think makes a phrase in so many steps, of which each is over what was made
// before.
func (m *modelMaker) think(names map[string][]int, steps int) *phrase {
	pool, values := []*phrase{}, []impl.Tensor{}
	keep := func(p *phrase) {
		if p == nil || len(p.all()) > 25 {
			return
		}
		if value := m.valueIn(p, names); wantTensorOk(value) && len(value.Data) <= 60 {
			pool, values = append(pool, p), append(values, value)
		}
	}
	for _, name := range slices.Sorted(maps.Keys(names)) {
		keep(&phrase{kind: 'a', text: name})
	}
	keep(m.number())
	for range steps {
		keep(m.step(pool, values))
	}
	return pool[len(pool)-1]
}

func (m *modelMaker) number() *phrase {
	texts := []string{"0", "1", "2", "3", "007", "10", "999999999", "000000004"}
	return &phrase{kind: '0', text: texts[m.source.Intn(len(texts))]}
}

func (m *modelMaker) step(pool []*phrase, values []impl.Tensor) *phrase {
	some := func() *phrase { return pool[m.source.Intn(len(pool))] }
	switch kind := m.source.Intn(16); {
	case kind == 0:
		return m.number()
	case kind == 1:
		return &phrase{kind: 'f', text: "fill", list: randomDims(m.source, m.source.Intn(3), 3), numbers: ints(m.source.Intn(5))}
	case kind == 2:
		return negated(some())
	case kind == 3:
		return inBrackets(some())
	case kind == 4:
		return &phrase{kind: 'f', text: "sum", parts: []*phrase{some().copied()}}
	case kind < 9:
		return paired(operators[m.source.Intn(4):][:1], some(), some())
	case kind < 12 && len(m.defs) > 0:
		return m.call(pool, values)
	}
	return phraseOf(randomNode(m.source, values), pool)
}

// call mostly finds arguments of the shapes that the def was made for.
func (m *modelMaker) call(pool []*phrase, values []impl.Tensor) *phrase {
	names := slices.Sorted(maps.Keys(m.defs))
	p := &phrase{kind: 'f', text: names[m.source.Intn(len(names))]}
	for _, dims := range m.shapes[p.text] {
		arg := &phrase{kind: 'f', text: "fill", list: dims, numbers: ints(2)}
		for _, at := range m.source.Perm(len(pool)) {
			if slices.Equal(values[at].Dims, dims) || m.source.Intn(12) == 0 {
				arg = pool[at]
				break
			}
		}
		p.parts = append(p.parts, arg.copied())
	}
	return p
}

func modelNames() []string {
	return []string{"x", "y", "f", "g", "relu", "sum", "Z_9", "a_234567890123456789"}
}

func (m *modelMaker) line() *modelLine {
	names := modelNames()
	l := &modelLine{name: names[m.source.Intn(len(names))]}
	switch kind := m.source.Intn(8); {
	case kind == 0 || len(m.names) == 0:
		l.word, l.dims = "in", randomDims(m.source, m.source.Intn(4), 3)
		m.names[l.name] = l.dims
	case kind < 4:
		l.word, l.body = "let", m.think(m.names, 4+m.source.Intn(12))
		m.names[l.name] = m.valueIn(l.body, m.names).Dims
	case kind < 6:
		l.word, l.body = "out", m.think(m.names, 4+m.source.Intn(12))
	default:
		m.define(l)
	}
	return l
}

// define makes a def for arguments of shapes that stand for names already.
func (m *modelMaker) define(l *modelLine) {
	l.word, l.name = "def", "d"+strconv.Itoa(len(m.defs))
	if m.defs["x"] == nil {
		l.name = "x"
	}
	stand := slices.Sorted(maps.Keys(m.names))
	shapes, own := [][]int{}, map[string][]int{}
	for _, at := range m.source.Perm(len(modelNames()))[:m.source.Intn(4)] {
		dims := m.names[stand[m.source.Intn(len(stand))]]
		l.names, shapes = append(l.names, modelNames()[at]), append(shapes, dims)
		own[modelNames()[at]] = dims
	}
	l.body = m.think(own, 4+m.source.Intn(10))
	m.defs[l.name], m.shapes[l.name] = l, shapes
}

// randomModel gives lines that can be, unless there come to be too many nodes.
func randomModel(source *rand.Rand) []*modelLine {
	m := &modelMaker{source: source, names: map[string][]int{}, defs: map[string]*modelLine{}, shapes: map[string][][]int{}}
	for range 2 + source.Intn(9) {
		m.lines = append(m.lines, m.line())
	}
	return m.lines
}

// checkModel holds what is traced of lines against the document's words, and
// tells the place.
func checkModel(t *testing.T, lines []*modelLine, text string) int {
	t.Helper()
	g, names, place := wantTrace(lines)
	if len(text) > 4000 {
		g, names, place = impl.Graph{}, nil, 0
	}
	if place >= 0 {
		checkPlace(t, text, place)
		return place
	}
	checkTraced(t, text, wantText(g))
	for _, name := range append(modelNames(), "d0", "d1", "") {
		want, found := names[name]
		if !found {
			want = -1
		}
		if got := impl.Named(text, name); got != want {
			t.Fatalf("Named(%q, %q) = %d, not %d", text, name, got, want)
		}
	}
	return -1
}

func TestTraceAgainstWords(t *testing.T) {
	source := rand.New(rand.NewSource(121))
	good, defs, ops := 0, 0, make([]int, 20)
	for range 1500 {
		lines := randomModel(source)
		text := written(source, lines).text
		if checkModel(t, lines, text) >= 0 {
			continue
		}
		good++
		checkModel(t, lines, strings.TrimRight(text, "\n"))
		g, _ := impl.Trace(text)
		for _, n := range g.Nodes {
			ops[n.Op]++
		}
		for _, l := range lines {
			if l.word == "def" && strings.Count(text, l.name+"(") > 1 {
				defs++
			}
		}
	}
	if good < 1200 || defs < 300 {
		t.Errorf("%d can be, %d defs are called", good, defs)
	}
	for op, count := range ops[1:] {
		if count < 20 {
			t.Errorf("Op %d comes %d times", op+1, count)
		}
	}
}

// spoil changes a number, a name, a sign or a line of what was thought up.
func spoil(source *rand.Rand, lines []*modelLine) {
	l := lines[source.Intn(len(lines))]
	others := ints(0, 1, 2, 3, 5, 4096, 4097, 999999999)
	x := others[source.Intn(len(others))]
	if l.word == "in" {
		l.dims = append(l.dims, x)
		return
	}
	all := l.body.all()
	p := all[source.Intn(len(all))]
	switch {
	case p.kind == 'a':
		p.text = append(modelNames(), "zz", "d0")[source.Intn(10)]
	case p.kind == '+':
		p.parts[0], p.parts[1] = p.parts[1], p.parts[0]
		if p.parts[1].kind == '+' {
			p.parts[1] = inBrackets(p.parts[1])
		}
		if p.parts[0].kind == '+' {
			p.parts[0] = inBrackets(p.parts[0])
		}
	case len(p.numbers) > 0 && source.Intn(2) == 0:
		p.numbers[source.Intn(len(p.numbers))] = x
	case len(p.list) > 0 && source.Intn(2) == 0:
		p.list[source.Intn(len(p.list))] = x
	case p.quote != "":
		p.quote += []string{"a", "z", ",", "#", " ", "->"}[source.Intn(6)]
	case p.kind == 'f' && callKinds()[p.text] == "x":
		p.text = []string{"relu", "sum", "d0", "d1", "zz"}[source.Intn(5)]
	case strings.Contains(callKinds()[p.text], "l"):
		p.list = append(p.list, x)
	}
}

// callsFit asks whether all calls of defs have as many arguments as names.
func callsFit(lines []*modelLine) bool {
	defs := map[string]int{}
	for _, l := range lines {
		if l.body == nil {
			continue
		}
		for _, p := range l.body.all() {
			count, found := defs[p.text]
			if p.kind == 'f' && found && count != len(p.parts) {
				return false
			}
		}
		if l.word == "def" {
			defs[l.name] = len(l.names)
		}
	}
	return true
}

func TestTraceOfSpoiltModels(t *testing.T) {
	source := rand.New(rand.NewSource(122))
	good, wrong := 0, 0
	for range 800 {
		lines := randomModel(source)
		for range 4 {
			changed := copiedLines(lines)
			spoil(source, changed)
			if !callsFit(changed) {
				continue
			}
			if checkModel(t, changed, written(source, changed).text) >= 0 {
				wrong++
			} else {
				good++
			}
		}
	}
	if good < 500 || wrong < 1000 {
		t.Errorf("%d can be, %d can't", good, wrong)
	}
}

// penProbes are pieces of each kind that a pen marks; what stands nowhere is
// of the kind !.
func penProbes() map[string][]string {
	probes := map[string][]string{
		"w": {"in", "let", "def", "out"}, "a": {"zz", "a_234567890123456789"}, "0": {"7", "999999999"}, "q": {"\"a->a\"", "\"\""}, "$": {""},
		"!": {"\t", "\x00", "\xc3", "$", "2b", "_a", "a_2345678901234567890", "1234567890", "\"", "\"a"},
	}
	for _, sign := range strings.Split("()[],=+-*/\n", "") {
		probes[sign] = []string{sign}
	}
	return probes
}

// Whatever can't stand behind the beginning of a source is told, at its place.
func TestTraceOfPiecesOutOfPlace(t *testing.T) {
	source := rand.New(rand.NewSource(123))
	all, count := penProbes(), 0
	for range 40 {
		lines := randomModel(source)
		w := written(source, lines)
		if _, _, place := wantTrace(lines); place >= 0 || len(w.text) > 3900 {
			continue
		}
		for _, mark := range w.marks {
			for kind, probes := range all {
				if strings.Contains(mark.may, kind) || mark.may[0] == '?' {
					continue
				}
				before := w.text[:mark.at] + " "
				for _, probe := range probes {
					for _, behind := range []string{"", "\n2", " 2 $"} {
						if kind == "$" && behind != "" {
							continue
						}
						count++
						if g, at := impl.Trace(before + probe + behind); at != len(before) || !isNoGraph(g) {
							t.Fatalf("Trace(%q) = %v, %d, not %d", before+probe+behind, g, at, len(before))
						}
					}
				}
			}
		}
	}
	if count < 100000 {
		t.Errorf("%d pieces were put where they can't stand", count)
	}
}

// writtenOut is the phrase with each call of a def written out.
func writtenOut(p *phrase, own map[string]*phrase, defs map[string]*modelLine) *phrase {
	if given := own[p.text]; p.kind == 'a' && given != nil {
		return inBrackets(given)
	}
	made := *p
	made.parts = nil
	for _, part := range p.parts {
		made.parts = append(made.parts, writtenOut(part, own, defs))
	}
	def := defs[p.text]
	if p.kind != 'f' || def == nil {
		return &made
	}
	inner := map[string]*phrase{}
	for i, name := range def.names {
		inner[name] = made.parts[i]
	}
	return inBrackets(writtenOut(def.body, inner, defs))
}

// linesWrittenOut are the lines without defs.
func linesWrittenOut(lines []*modelLine) []*modelLine {
	defs := map[string]*modelLine{}
	out := []*modelLine{}
	for _, l := range copiedLines(lines) {
		if l.word == "def" {
			defs[l.name] = l
			continue
		}
		if l.body != nil {
			l.body = writtenOut(l.body, nil, defs)
		}
		out = append(out, l)
	}
	return out
}

func TestDefsGiveWhatIsWrittenOut(t *testing.T) {
	source := rand.New(rand.NewSource(124))
	count := 0
	for range 2500 {
		lines := randomModel(source)
		called, place := impl.Trace(written(source, lines).text)
		if place >= 0 || len(called.Outs) == 0 {
			continue
		}
		out := linesWrittenOut(lines)
		text := written(source, out).text
		if len(text) > 4000 || checkModel(t, out, text) >= 0 {
			continue // too long, too many nodes, or too deep
		}
		plain, _ := impl.Trace(text)
		if sameGraph(called, plain) {
			continue // no def is called
		}
		count++
		inputs := inputsFor(source, called)
		if got, want := impl.Eval(called, inputs), impl.Eval(plain, inputs); len(got) == 0 || !sameTensors(got, want) {
			t.Fatalf("%s gives %v,\n%s gives %v", wantText(called), got, wantText(plain), want)
		}
	}
	if count < 300 {
		t.Errorf("only %d were written out", count)
	}
}

// A def that is written out by hand gives the same numbers, and so does one that
// is called by another one.
func TestDefsRows(t *testing.T) {
	x := tensorOf(ints(2), 3, 5)
	y := tensorOf(ints(2), 7, impl.Mod(-2))
	ahead := "in x [2]\nin y [2]\n"
	rows := []struct {
		called string
		plain  string
		want   impl.Tensor
	}{
		{"def f(a) = a * a\nout f(x + 1)", "out (x + 1) * (x + 1)", tensorOf(ints(2), 16, 36)},
		{"def f(a) = a * a\nout f(x) - f(y)", "out x * x - y * y", tensorOf(ints(2), impl.Mod(-40), 21)},
		{"def f(a, b) = a - b\nout f(y, x)", "out y - x", tensorOf(ints(2), 4, impl.Mod(-7))},
		{"def f(x, y) = x - y\nout f(y, x)", "out y - x", tensorOf(ints(2), 4, impl.Mod(-7))},
		{"def f(a) = a - 1\nout -f(x) * 2", "out -(x - 1) * 2", tensorOf(ints(2), impl.Mod(-4), impl.Mod(-8))},
		{"def f(a) = a + 1\nout 2 * f(x) / f(x)", "out 2 * (x + 1) / (x + 1)", tensorOf(ints(2), 2, 2)},
		{"def f(a) = sum(a)\ndef g(a, b) = f(a) * f(b)\nout g(x, y - x)", "out sum(x) * sum(y - x)", tensorOf(nil, impl.Mod(-24))},
		{"def two() = 2\ndef f(a) = two() * a\nout f(f(x))", "out 2 * (2 * x)", tensorOf(ints(2), 12, 20)},
		{"def mean(a) = sum(a) / 2\ndef centred(a) = a - mean(a)\nout centred(y)", "out y - sum(y) / 2", tensorOf(ints(2), impl.Over(9, 2), impl.Over(-9, 2))},
		{"def dot(a, b) = contract(\"i,i->\", a, b)\nlet x = dot(x, y)\nout x", "out contract(\"i,i->\", x, y)", tensorOf(nil, 11)},
	}
	for _, row := range rows {
		for _, src := range []string{ahead + row.called, ahead + row.plain, ahead + row.called + "\n" + row.plain} {
			if strings.Contains(row.called, "let") && strings.Contains(src, row.called) && strings.Contains(src, row.plain) {
				continue // x is another one there
			}
			g, at := impl.Trace(src)
			got := impl.Eval(g, tensors(x, y))
			if at != -1 || len(got) == 0 || !sameTensor(got[0], row.want) || !sameTensor(got[len(got)-1], row.want) {
				t.Errorf("%q gives %v, %d, not %v", src, got, at, row.want)
			}
		}
	}
}

// Each def calls the one ahead of it twice: what would be more calls than can be
// gone through is told at once.
func TestTraceOfDearSources(t *testing.T) {
	lines := "def f0(a) = a\n"
	for n := 1; n < 39; n++ {
		lines += "def f" + strconv.Itoa(n) + "(a) = f" + strconv.Itoa(n-1) + "(f" + strconv.Itoa(n-1) + "(a))\n"
	}
	checkTraced(t, lines+"out f8(1)", "0 const [] 1\nout 0\n")
	checkMarkedBehind(t, lines, "out ^f9(1)", "out ^f20(1)", "out ^f38(1)", "out f8(1) + ^f8(1)", "out ^f8(f8(1))")
	wide := "def f(a) = " + strings.Repeat("(", 39) + strings.Repeat(" ", 100) + "a" + strings.Repeat(")", 39) + "\n" + "def g(a) = f(a)\n"
	checkPlace(t, wide+"out g(1)", len(wide)+4)
	checkTraced(t, wide+strings.Repeat("out f(1)\n", 40), wantText(graphOf(firstNumbers(40), slices.Repeat([]impl.Node{constNode(nil, 1)}, 40)...)))
	long := "out contract(\"->\"" + strings.Repeat(",1", 1980) + ")"
	checkPlace(t, long, len("out contract(\"->\"")+2*200+1)
	checkPlace(t, "in x ["+strings.Repeat("1,", 1990)+"1]", 5)
}

func firstNumbers(count int) []int {
	numbers := []int{}
	for number := range count {
		numbers = append(numbers, number)
	}
	return numbers
}

// Whatever stands in a source, a graph that can be or a place comes of it, and
// behind notes the same.
func TestTraceOfAnything(t *testing.T) {
	source := rand.New(rand.NewSource(125))
	pieces := strings.Split("in let def out x y f a relu sum contract top fill spread 0 1 2 30 ( ) ( ) ( ) [ ] , = + - * / # \" \"a->\" [2] [2,3] [] in|x|[2] let|y|= def|f(a)|= out|x out|f( relu(x) $ _ 1a", " ")
	good, wrong := 0, 0
	for range 60000 {
		src := []string{"", "in x [2]\n", "in x [2]\ndef f(a) = a\n"}[source.Intn(3)]
		for range source.Intn(12) {
			src += strings.ReplaceAll(pieces[source.Intn(len(pieces))], "|", " ") + []string{"", " ", "  ", "\n"}[source.Intn(4)]
		}
		g, at := impl.Trace(src)
		if at >= 0 && at <= len(src) {
			checkPlace(t, src, at)
			wrong++
			continue
		}
		if at != -1 || !impl.GraphOk(g) {
			t.Fatalf("Trace(%q) = %v, %d", src, g, at)
		}
		checkTraced(t, src, wantText(g))
		good++
	}
	for range 20000 {
		soup := make([]byte, source.Intn(30))
		for i := range soup {
			soup[i] = byte(source.Intn(256))
		}
		if g, at := impl.Trace(string(soup)); at < -1 || at > len(soup) || !impl.GraphOk(g) || at >= 0 && !isNoGraph(g) {
			t.Fatalf("Trace(%q) = %v, %d", soup, g, at)
		}
	}
	if good < 1000 || wrong < 10000 {
		t.Errorf("%d can be, %d can't", good, wrong)
	}
}

func TestTraceListsAreAlone(t *testing.T) {
	source := rand.New(rand.NewSource(126))
	sources := []string{
		"in r [3]\nin c [2,1]\nout r * c\nout r / c\nout c - r", "in x [2]\nin y [2]\nout x\nout y", "def f(a) = spread(a, [2,3])\nout f(1)\nout f(f(1))", "def f(a) = gather(a, 0, [1,1])\nin x [2]\nout f(x) + f(x)",
		"out fill([2,2], 3)\nout fill([2,2], 3)", "in x [2]\ndef f(a, b) = contract(\"a,a->\", a, b)\nout f(x, x)\nout f(x, x)", "in x [3,3]\nout scatter(x, 0, 4, [1,2,3]) / 2 / 3\nout reshape(x, [9]) / reshape(x, [9])",
	}
	for range 200 {
		sources = append(sources, written(source, randomModel(source)).text)
	}
	for _, src := range sources {
		checkAlone(t, "Trace", nil, func([][]int) [][]int {
			g, _ := impl.Trace(src)
			return listsOf(g, nil)
		})
		first, _ := impl.Trace(src)
		second, _ := impl.Trace(src)
		kept := copiedGraph(second)
		for number := range first.Nodes {
			first.Nodes[number].Op = -1
		}
		if !sameGraph(second, kept) {
			t.Fatalf("two graphs of %q share nodes", src)
		}
	}
}

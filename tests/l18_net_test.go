package tests

import (
	"fmt"
	"math"
	"math/big"
	"math/bits"
	"math/rand"
	"runtime"
	"slices"
	"strconv"
	"strings"
	"sync"
	"testing"
	"time"

	"loop.example/g00033/impl"
)

const (
	testRounds = 300
	testMoves  = 5000
	testOrder  = 4000
	testSpeed  = 1000
	testSize   = 4096
	// A Ring of more workers has more Moves than can be: 51 have 5100.
	testRing = 50
)

func TestNetLimits(t *testing.T) {
	if impl.MaxRounds != testRounds || impl.MaxMoves != testMoves || impl.MaxOrder != testOrder || impl.MaxWorkers != testWorkers {
		t.Error("the limits of chapter 18")
	}
}

func sendOf(from int, to int, chunk int, add bool) impl.Move {
	return impl.Move{From: from, To: to, Chunk: chunk, Add: add}
}

// roundsIn reads rounds with | between them; 1>0+2 is a Move from 1 to 0 of
// chunk 2 with Add, 1>0=2 is one without.
func roundsIn(text string) [][]impl.Move {
	rounds := [][]impl.Move{}
	if text == "" {
		return rounds
	}
	for _, part := range strings.Split(text, "|") {
		round := []impl.Move{}
		for _, word := range strings.Fields(part) {
			m, sign := impl.Move{}, ' '
			if _, err := fmt.Sscanf(word, "%d>%d%c%d", &m.From, &m.To, &sign, &m.Chunk); err != nil || !strings.ContainsRune("+=", sign) {
				panic(word)
			}
			m.Add = sign == '+'
			round = append(round, m)
		}
		rounds = append(rounds, round)
	}
	return rounds
}

func roundsText(rounds [][]impl.Move) string {
	parts := []string{}
	for _, round := range rounds {
		words := []string{}
		for _, m := range round {
			words = append(words, fmt.Sprintf("%d>%d%c%d", m.From, m.To, map[bool]rune{true: '+', false: '='}[m.Add], m.Chunk))
		}
		parts = append(parts, strings.Join(words, " "))
	}
	return strings.Join(parts, " | ")
}

func sameRounds(a [][]impl.Move, b [][]impl.Move) bool {
	return slices.EqualFunc(a, b, slices.Equal[[]impl.Move])
}

func copiedRounds(rounds [][]impl.Move) [][]impl.Move {
	made := [][]impl.Move{}
	for _, round := range rounds {
		made = append(made, slices.Clone(round))
	}
	return made
}

// sendsIn counts all Moves.
func sendsIn(rounds [][]impl.Move) int { return len(slices.Concat(rounds...)) }

// wantMovesOk says what the document says of MovesOk: From and To are two
// workers, so none sends to itself.
func wantMovesOk(rounds [][]impl.Move, n int, c int) bool {
	if !allIn(1, testWorkers, n, c) || len(rounds) > testRounds || sendsIn(rounds) > testMoves {
		return false
	}
	for _, round := range rounds {
		gets := map[[2]int]int{}
		for _, m := range round {
			gets[[2]int{m.To, m.Chunk}]++
			if !allIn(0, n-1, m.From, m.To) || m.From == m.To || !allIn(0, c-1, m.Chunk) || gets[[2]int{m.To, m.Chunk}] > 1 {
				return false
			}
		}
	}
	return true
}

// checkNothingRun holds the answers at what is not MovesOk.
func checkNothingRun(t *testing.T, rounds [][]impl.Move, n int, c int) {
	t.Helper()
	if impl.Complete(rounds, n, c) || impl.Order(rounds, n, c, 0, 0) != "" || len(impl.Finish(rounds, n, c, slices.Repeat(ints(1), max(0, min(n, 70))))) != 0 {
		t.Fatalf("something comes of %.300s for %d workers and %d chunks", roundsText(rounds), n, c)
	}
	if n < 0 || n > 70 {
		return
	}
	if values := manyRows(n, 1, 2, 3); len(impl.RunMoves(rounds, c, values)) != 0 || len(impl.RunFloats(rounds, c, values)) != 0 {
		t.Fatalf("lists come of %.300s for %d workers and %d chunks", roundsText(rounds), n, c)
	}
}

func checkMovesOk(t *testing.T, rounds [][]impl.Move, n int, c int) bool {
	t.Helper()
	got := impl.MovesOk(rounds, n, c)
	if got != wantMovesOk(rounds, n, c) {
		t.Fatalf("MovesOk of %.300s for %d workers and %d chunks is %v", roundsText(rounds), n, c, got)
	}
	if !got {
		checkNothingRun(t, rounds, n, c)
	}
	return got
}

func TestMovesOkOfCounts(t *testing.T) {
	rounds := roundsIn("0>1+0 |  | 1>0=0")
	for _, x := range slices.Concat(around(1, testWorkers), ints(-1, 0, 3, 1<<32+1, 1<<32), testInts()) {
		for _, r := range [][][]impl.Move{nil, {}, {{}}, {nil}, {nil, nil}, rounds} {
			for _, sizes := range rowsOf(ints(x, 1), ints(1, x), ints(x, x), ints(x, 5), ints(5, x), ints(2, x)) {
				// One worker alone has nobody to send to.
				within := allIn(1, testWorkers, sizes...) && (sendsIn(r) == 0 || sizes[0] > 1)
				if checkMovesOk(t, r, sizes[0], sizes[1]) != within {
					t.Errorf("MovesOk of %s with %v is not %v", roundsText(r), sizes, within)
				}
			}
			for _, other := range ints(0, 65, -1, math.MinInt, math.MaxInt) {
				if checkMovesOk(t, r, x, other) || checkMovesOk(t, r, other, x) {
					t.Errorf("MovesOk with %d and %d", x, other)
				}
			}
		}
	}
}

// fullRound has each worker get each chunk from another one.
func fullRound(n int, c int, add bool) []impl.Move {
	round := []impl.Move{}
	for to := range n {
		for chunk := range c {
			round = append(round, sendOf((to+1)%n, to, chunk, add))
		}
	}
	return round
}

func TestMovesOkOfBounds(t *testing.T) {
	empty := [][]impl.Move{}
	for range 302 {
		empty = append(empty, nil)
	}
	one := [][]impl.Move{}
	for range 302 {
		one = append(one, []impl.Move{sendOf(1, 0, 0, true)})
	}
	for _, count := range ints(0, 1, 299, 300, 301, 302) {
		if checkMovesOk(t, empty[:count], 2, 1) != (count <= 300) || checkMovesOk(t, one[:count], 2, 1) != (count <= 300) {
			t.Errorf("MovesOk of %d rounds", count)
		}
	}
	full := fullRound(64, 64, false)
	for _, row := range []struct {
		counts []int
		ok     bool
	}{
		{ints(4096), true}, {ints(4096, 904), true}, {ints(4096, 905), false}, {ints(904, 4096), true}, {ints(905, 4096), false}, {ints(2500, 2500), true}, {ints(2500, 0, 2501), false},
		{slices.Repeat(ints(50), 100), true}, {append(slices.Repeat(ints(50), 100), 1), false}, {append(slices.Repeat(ints(50), 100), 0), true},
		{slices.Repeat(ints(16), 300), true}, {append(slices.Repeat(ints(16), 299), 216), true}, {append(slices.Repeat(ints(16), 299), 217), false}, {append(ints(217), slices.Repeat(ints(16), 299)...), false},
		{slices.Repeat(ints(17), 300), false}, {append(slices.Repeat(ints(16), 300), 1), false}, {ints(4096, 4096), false},
	} {
		rounds := [][]impl.Move{}
		for _, count := range row.counts {
			rounds = append(rounds, full[:count])
		}
		if checkMovesOk(t, rounds, 64, 64) != row.ok {
			t.Errorf("MovesOk of %d Moves in %d rounds is not %v", sendsIn(rounds), len(rounds), row.ok)
		}
	}
	// In one round so many can't be without one that comes twice.
	for _, count := range ints(4097, 5000, 5001, 100000) {
		if checkMovesOk(t, [][]impl.Move{slices.Repeat(full, 25)[:count]}, 64, 64) {
			t.Errorf("MovesOk of %d Moves in one round", count)
		}
	}
}

func TestMovesOkOfParts(t *testing.T) {
	change := []func(m *impl.Move, x int){
		func(m *impl.Move, x int) { m.From = x }, func(m *impl.Move, x int) { m.To = x }, func(m *impl.Move, x int) { m.Chunk = x },
	}
	for _, sizes := range rowsOf(ints(1, 1), ints(2, 1), ints(3, 5), ints(5, 3), ints(64, 1), ints(1, 64), ints(64, 64), ints(63, 2)) {
		n, c := sizes[0], sizes[1]
		for part, set := range change {
			last := ints(n-1, n-1, c-1)[part]
			for _, x := range slices.Concat(around(0, last), ints(-1, last+1, last+2, 64, 65, 1<<32, -1<<32), testInts()) {
				for _, add := range []bool{true, false} {
					m := sendOf(0, n-1, 0, add)
					set(&m, x)
					plain := sendOf(n-1, 0, c-1, !add)
					for _, rounds := range [][][]impl.Move{{{m}}, {{}, {m}}, {{m}, {plain}}, {{plain}, {plain}, {m}}} {
						if checkMovesOk(t, rounds, n, c) != (allIn(0, last, x) && m.From != m.To) {
							t.Errorf("MovesOk of %s for %d workers, %d chunks", roundsText(rounds), n, c)
						}
					}
				}
			}
		}
	}
}

func TestMovesOkRows(t *testing.T) {
	for _, row := range []struct {
		rounds string
		n      int
		c      int
		ok     bool
	}{
		{"", 1, 1, true}, {"|", 1, 1, true}, {"1>0+0", 2, 1, true}, {"1>0=0", 2, 1, true}, {"1>0+0", 1, 1, false}, {"0>1+0", 1, 1, false}, {"0>1+1", 2, 1, false}, {"0>1+1", 2, 2, true},
		// From a worker to itself.
		{"0>0+0", 1, 1, false}, {"0>0=0", 1, 1, false}, {"0>0+0", 2, 1, false}, {"0>0=0", 2, 1, false}, {"1>1=0", 2, 1, false}, {"2>2+1", 3, 2, false}, {"63>63+63", 64, 64, false}, {"0>0+0 1>1+0 2>2=0", 3, 1, false}, {"3>3+0", 3, 1, false}, {"0>3+0", 4, 1, true},
		{"0>0+0 0>1+0", 3, 1, false}, {"0>1+0 2>2=0", 3, 1, false}, {"0>1+0 1>1=1 1>0+0", 3, 2, false}, {"0>0+0 | 1>0+0", 3, 1, false}, {"0>1+0 | 0>1+0 1>2+0 | 2>2+0", 3, 1, false}, {"0>1+0 | | 1>1=0 | 1>0+0", 3, 1, false},
		// To gets one chunk twice.
		{"1>0+0 2>0+0", 3, 1, false}, {"1>0+0 2>0=0", 3, 1, false}, {"1>0=0 2>0=0", 3, 1, false}, {"1>0=0 2>0+0", 3, 1, false}, {"1>0+0 1>0+0", 3, 1, false}, {"1>0+0 1>0=0", 3, 1, false},
		{"1>0+0 0>0+0", 3, 1, false}, {"0>0+0 1>0=0", 3, 1, false}, {"0>0+0 0>0+0", 3, 1, false}, {"0>0=0 0>0=0", 1, 1, false}, {"0>1+0 1>2+0 2>0+0 1>0+0", 3, 1, false},
		{"2>0+1 1>0+0 0>2+1 0>2+0 1>2=1", 3, 2, false}, {"2>63+63 1>63+63", 64, 64, false}, {"| 2>63+63 1>63=63 |", 64, 64, false},
		// The same To and chunk in two rounds; the same To with two chunks; the same chunk to two.
		{"1>0+0 | 2>0+0", 3, 1, true}, {"1>0+0 | 1>0+0", 3, 1, true}, {"1>0+0 1>0+1", 3, 2, true}, {"1>0+0 2>0+1", 3, 2, true}, {"1>0+0 1>2+0", 3, 1, true}, {"1>0+0 0>1+0", 3, 1, true}, {"1>0=0 0>1=0", 2, 1, true},
		{"0>1+1 1>0+1 0>1+0 1>0+0", 2, 2, true}, {"1>0+0 1>0+1 1>0+2 1>0+3", 2, 4, true}, {"1>0+0 1>0+1 1>0+2 1>0+1", 2, 4, false}, {"0>1+0 0>10+0 1>0+1 1>0+10", 11, 11, true},
		// What is wrong stands first, last, or in an empty place between.
		{"3>0+0 | 1>0+0 | 2>0+0", 3, 1, false}, {"1>0+0 | 2>0+0 | 0>3+0", 3, 1, false}, {"1>0+0 | | 2>0+1", 3, 1, false}, {"-1>0+0", 2, 1, false}, {"0>-1+0", 2, 1, false}, {"0>1+-1", 2, 1, false},
	} {
		if checkMovesOk(t, roundsIn(row.rounds), row.n, row.c) != row.ok {
			t.Errorf("MovesOk of %s for %d workers and %d chunks is not %v", row.rounds, row.n, row.c, row.ok)
		}
	}
}

// randomRounds can be run by n workers with c chunks; some rounds are empty,
// those of one worker all.
func randomRounds(source *rand.Rand, n int, c int, count int) [][]impl.Move {
	rounds := [][]impl.Move{}
	for range count {
		round, places := []impl.Move{}, source.Perm(n*c)
		most := 1 + source.Intn(n*c)
		if source.Intn(6) == 0 {
			most = n * c
		}
		if n == 1 {
			most = 0
		}
		for _, place := range places[:min(most, source.Intn(20))] {
			round = append(round, sendOf(otherThan(source, place/c, n), place/c, place%c, source.Intn(3) > 0))
		}
		rounds = append(rounds, round)
	}
	return rounds
}

// otherThan picks one of n workers, of which the given one is not asked for.
func otherThan(source *rand.Rand, worker int, n int) int {
	return among(worker+1+source.Intn(n-1), n)
}

// spoiltRounds are changed in one place or another.
func spoiltRounds(source *rand.Rand, rounds [][]impl.Move, n int, c int) [][]impl.Move {
	made := copiedRounds(rounds)
	if len(made) == 0 {
		return [][]impl.Move{{sendOf(source.Intn(n+1), source.Intn(n+1), source.Intn(c+1), true)}}
	}
	at := source.Intn(len(made))
	if len(made[at]) == 0 {
		return append(made, []impl.Move{sendOf(source.Intn(n+2)-1, source.Intn(n+2)-1, source.Intn(c+2)-1, false)})
	}
	place := source.Intn(len(made[at]))
	m := &made[at][place]
	switch source.Intn(8) {
	case 0:
		m.From = source.Intn(n+2) - 1
	case 1:
		m.To = source.Intn(n+2) - 1
	case 2:
		m.Chunk = source.Intn(c+2) - 1
	case 3:
		m.Add = !m.Add
	case 4:
		made[at] = append(made[at], *m)
	case 5:
		made[at] = slices.Delete(made[at], place, place+1)
	case 6:
		m.From = m.To
	default:
		made = slices.Insert(made, source.Intn(len(made)+1), []impl.Move{*m})
	}
	return made
}

func TestMovesOkAtRandom(t *testing.T) {
	source := rand.New(rand.NewSource(280))
	good, wrong := 0, 0
	for range 6000 {
		n, c := 1+source.Intn(5), 1+source.Intn(4)
		rounds := randomRounds(source, n, c, source.Intn(4))
		if !checkMovesOk(t, rounds, n, c) {
			t.Fatalf("MovesOk of %s for %d workers and %d chunks is false", roundsText(rounds), n, c)
		}
		for range source.Intn(3) {
			rounds = spoiltRounds(source, rounds, n, c)
		}
		if checkMovesOk(t, rounds, n+source.Intn(2), c+source.Intn(2)) {
			good++
		} else {
			wrong++
		}
	}
	if good < 1000 || wrong < 1000 {
		t.Errorf("%d can be, %d can't", good, wrong)
	}
}

// checkMoveToItself puts a Move from a worker to itself in the place of what
// else came there, in each round and behind all: nothing comes of it, and it is
// all that is wrong.
func checkMoveToItself(t *testing.T, rounds [][]impl.Move, n int, c int, worker int, chunk int) {
	t.Helper()
	if !checkMovesOk(t, rounds, n, c) {
		t.Fatalf("%.300s can't be", roundsText(rounds))
	}
	for number, round := range append(copiedRounds(rounds), nil) {
		for _, place := range ints(0, len(round)/2, len(round)) {
			for _, add := range []bool{true, false} {
				made := append(copiedRounds(rounds), nil)
				made[number] = slices.DeleteFunc(made[number], func(m impl.Move) bool { return m.To == worker && m.Chunk == chunk })
				made[number] = slices.Insert(made[number], min(place, len(made[number])), sendOf(worker, worker, chunk, add))
				if checkMovesOk(t, made, n, c) {
					t.Fatalf("%.300s for %d workers and %d chunks is MovesOk", roundsText(made), n, c)
				}
			}
		}
	}
}

// P45: From and To are two workers.
func TestMovesFromAWorkerToItself(t *testing.T) {
	for _, add := range []bool{true, false} {
		for _, sizes := range rowsOf(ints(1, 1), ints(1, 64), ints(2, 1), ints(2, 3), ints(3, 2), ints(64, 1), ints(64, 64)) {
			n, c := sizes[0], sizes[1]
			for worker := range n {
				for _, chunk := range ints(0, c/2, c-1) {
					if checkMovesOk(t, [][]impl.Move{{sendOf(worker, worker, chunk, add)}}, n, c) {
						t.Errorf("of %d workers %d may send chunk %d of %d to itself", n, worker, chunk, c)
					}
				}
			}
		}
	}
	for n := 1; n <= 6; n++ {
		for worker := range n {
			checkMoveToItself(t, [][]impl.Move{}, n, 1, worker, 0)
			checkMoveToItself(t, impl.Ring(n), n, n, worker, among(worker+1, n))
			checkMoveToItself(t, impl.Tree(n), n, 1, worker, 0)
			checkMoveToItself(t, impl.Nodes(n, 2), n, 1, worker, 0)
		}
	}
}

// among brings x into 0 .. n - 1 by multiples of n.
func among(x int, n int) int { return (x%n + n) % n }

// wantRing says what the document says of Ring.
func wantRing(n int) [][]impl.Move {
	rounds := [][]impl.Move{}
	if !allIn(1, testWorkers, n) {
		return rounds
	}
	for r := 0; r <= n-2; r++ {
		round := []impl.Move{}
		for i := range n {
			round = append(round, impl.Move{From: i, To: among(i+1, n), Chunk: among(i-r, n), Add: true})
		}
		rounds = append(rounds, round)
	}
	for r := 0; r <= n-2; r++ {
		round := []impl.Move{}
		for i := range n {
			round = append(round, impl.Move{From: i, To: among(i+1, n), Chunk: among(i+1-r, n)})
		}
		rounds = append(rounds, round)
	}
	return rounds
}

// distancesBelow are 1, 2, 4 .. below n.
func distancesBelow(n int) []int {
	list := []int{}
	for _, d := range ints(1, 2, 4, 8, 16, 32) {
		if d < n {
			list = append(list, d)
		}
	}
	return list
}

// treeSends are those that Tree has for d among so many; named says who they
// are.
func treeSends(d int, count int, add bool, named func(i int) int) []impl.Move {
	round := []impl.Move{}
	for i := range count {
		switch {
		case i%(2*d) != 0 || i+d >= count:
		case add:
			round = append(round, impl.Move{From: named(i + d), To: named(i), Add: true})
		default:
			round = append(round, impl.Move{From: named(i), To: named(i + d)})
		}
	}
	return round
}

func treeOver(count int, named func(i int) int) [][]impl.Move {
	rounds := [][]impl.Move{}
	for _, d := range distancesBelow(count) {
		rounds = append(rounds, treeSends(d, count, true, named))
	}
	for _, d := range slices.Backward(distancesBelow(count)) {
		rounds = append(rounds, treeSends(d, count, false, named))
	}
	return rounds
}

// wantStoreyOne says what the document says of Tree.
func wantStoreyOne(n int) [][]impl.Move {
	if !allIn(1, testWorkers, n) {
		return nil
	}
	return treeOver(n, func(i int) int { return i })
}

// membersOfGroups are the workers of each group.
func membersOfGroups(n int, each int) [][]int {
	groups := [][]int{}
	for worker := range n {
		if worker%each == 0 {
			groups = append(groups, nil)
		}
		groups[worker/each] = append(groups[worker/each], worker)
	}
	return groups
}

// wantNodes says what the document says of Nodes.
func wantNodes(n int, each int) [][]impl.Move {
	rounds := [][]impl.Move{}
	if !allIn(1, testWorkers, n, each) {
		return rounds
	}
	groups := membersOfGroups(n, each)
	inGroups := func(d int, add bool) {
		round := []impl.Move{}
		for _, members := range groups {
			round = append(round, treeSends(d, len(members), add, func(i int) int { return members[i] })...)
		}
		rounds = append(rounds, round)
	}
	for _, d := range distancesBelow(len(groups[0])) {
		inGroups(d, true)
	}
	rounds = append(rounds, treeOver(len(groups), func(i int) int { return groups[i][0] })...)
	for _, d := range slices.Backward(distancesBelow(len(groups[0]))) {
		inGroups(d, false)
	}
	return rounds
}

func checkCollective(t *testing.T, name string, got [][]impl.Move, want [][]impl.Move) {
	t.Helper()
	if !sameRounds(got, want) {
		t.Fatalf("%s is %.500s, not %.500s", name, roundsText(got), roundsText(want))
	}
}

func TestCollectiveRows(t *testing.T) {
	for _, row := range []struct {
		name string
		got  [][]impl.Move
		want string
	}{
		{"Ring of 1", impl.Ring(1), ""},
		{"Ring of 2", impl.Ring(2), "0>1+0 1>0+1 | 0>1=1 1>0=0"},
		{"Ring of 3", impl.Ring(3), "0>1+0 1>2+1 2>0+2 | 0>1+2 1>2+0 2>0+1 | 0>1=1 1>2=2 2>0=0 | 0>1=0 1>2=1 2>0=2"},
		{"Ring of 4", impl.Ring(4), "0>1+0 1>2+1 2>3+2 3>0+3 | 0>1+3 1>2+0 2>3+1 3>0+2 | 0>1+2 1>2+3 2>3+0 3>0+1 | 0>1=1 1>2=2 2>3=3 3>0=0 | 0>1=0 1>2=1 2>3=2 3>0=3 | 0>1=3 1>2=0 2>3=1 3>0=2"},
		{"Tree of 1", impl.Tree(1), ""},
		{"Tree of 2", impl.Tree(2), "1>0+0 | 0>1=0"},
		{"Tree of 3", impl.Tree(3), "1>0+0 | 2>0+0 | 0>2=0 | 0>1=0"},
		{"Tree of 4", impl.Tree(4), "1>0+0 3>2+0 | 2>0+0 | 0>2=0 | 0>1=0 2>3=0"},
		{"Tree of 5", impl.Tree(5), "1>0+0 3>2+0 | 2>0+0 | 4>0+0 | 0>4=0 | 0>2=0 | 0>1=0 2>3=0"},
		{"Tree of 7", impl.Tree(7), "1>0+0 3>2+0 5>4+0 | 2>0+0 6>4+0 | 4>0+0 | 0>4=0 | 0>2=0 4>6=0 | 0>1=0 2>3=0 4>5=0"},
		{"Nodes of 1, 1", impl.Nodes(1, 1), ""},
		{"Nodes of 1, 64", impl.Nodes(1, 64), ""},
		{"Nodes of 2, 1", impl.Nodes(2, 1), "1>0+0 | 0>1=0"},
		{"Nodes of 2, 2", impl.Nodes(2, 2), "1>0+0 | 0>1=0"},
		{"Nodes of 3, 2", impl.Nodes(3, 2), "1>0+0 | 2>0+0 | 0>2=0 | 0>1=0"},
		{"Nodes of 4, 2", impl.Nodes(4, 2), "1>0+0 3>2+0 | 2>0+0 | 0>2=0 | 0>1=0 2>3=0"},
		{"Nodes of 4, 3", impl.Nodes(4, 3), "1>0+0 | 2>0+0 | 3>0+0 | 0>3=0 | 0>2=0 | 0>1=0"},
		{"Nodes of 5, 3", impl.Nodes(5, 3), "1>0+0 4>3+0 | 2>0+0 | 3>0+0 | 0>3=0 | 0>2=0 | 0>1=0 3>4=0"},
		{"Nodes of 5, 5", impl.Nodes(5, 5), "1>0+0 3>2+0 | 2>0+0 | 4>0+0 | 0>4=0 | 0>2=0 | 0>1=0 2>3=0"},
		{"Nodes of 5, 64", impl.Nodes(5, 64), "1>0+0 3>2+0 | 2>0+0 | 4>0+0 | 0>4=0 | 0>2=0 | 0>1=0 2>3=0"},
		{"Nodes of 7, 3", impl.Nodes(7, 3), "1>0+0 4>3+0 | 2>0+0 5>3+0 | 3>0+0 | 6>0+0 | 0>6=0 | 0>3=0 | 0>2=0 3>5=0 | 0>1=0 3>4=0"},
		{"Nodes of 9, 4", impl.Nodes(9, 4), "1>0+0 3>2+0 5>4+0 7>6+0 | 2>0+0 6>4+0 | 4>0+0 | 8>0+0 | 0>8=0 | 0>4=0 | 0>2=0 4>6=0 | 0>1=0 2>3=0 4>5=0 6>7=0"},
	} {
		checkCollective(t, row.name, row.got, roundsIn(row.want))
	}
}

func TestCollectivesAgainstWords(t *testing.T) {
	for n := 1; n <= testWorkers; n++ {
		checkCollective(t, fmt.Sprint("Ring of ", n), impl.Ring(n), wantRing(n))
		checkCollective(t, fmt.Sprint("Tree of ", n), impl.Tree(n), wantStoreyOne(n))
		if checkMovesOk(t, impl.Ring(n), n, n) != (n <= testRing) || !checkMovesOk(t, impl.Tree(n), n, 1) {
			t.Errorf("Ring or Tree of %d and MovesOk", n)
		}
		if sendsIn(impl.Ring(n)) != 2*n*(n-1) || sendsIn(impl.Tree(n)) != 2*(n-1) {
			t.Errorf("Ring and Tree of %d have %d and %d Moves", n, sendsIn(impl.Ring(n)), sendsIn(impl.Tree(n)))
		}
		for each := 1; each <= testWorkers; each++ {
			checkCollective(t, fmt.Sprint("Nodes of ", n, ", ", each), impl.Nodes(n, each), wantNodes(n, each))
			if !impl.MovesOk(impl.Nodes(n, each), n, 1) {
				t.Errorf("Nodes of %d, %d is not MovesOk", n, each)
			}
		}
		// Groups of one, and one group, are no second storey.
		checkCollective(t, "Nodes of one each", impl.Nodes(n, 1), impl.Tree(n))
		checkCollective(t, "Nodes of one group", impl.Nodes(n, n), impl.Tree(n))
		checkCollective(t, "Nodes of more than all", impl.Nodes(n, testWorkers), impl.Tree(n))
	}
}

func TestCollectivesOfWrongCounts(t *testing.T) {
	for _, x := range slices.Concat(around(1, testWorkers), ints(-1, -2, 1<<32, 1<<32+1, 1<<32+2, 128), testInts()) {
		checkCollective(t, fmt.Sprint("Ring of ", x), impl.Ring(x), wantRing(x))
		checkCollective(t, fmt.Sprint("Tree of ", x), impl.Tree(x), wantStoreyOne(x))
		for _, other := range slices.Concat(around(1, testWorkers), ints(3, 7)) {
			checkCollective(t, fmt.Sprint("Nodes of ", x, ", ", other), impl.Nodes(x, other), wantNodes(x, other))
			checkCollective(t, fmt.Sprint("Nodes of ", other, ", ", x), impl.Nodes(other, x), wantNodes(other, x))
		}
		if !allIn(1, testWorkers, x) && len(impl.Ring(x))+len(impl.Tree(x))+len(impl.Nodes(x, 2))+len(impl.Nodes(2, x)) > 0 {
			t.Errorf("%d workers have rounds", x)
		}
	}
}

// chunkAt says in which chunk a place of a list of some length stands.
func chunkAt(place int, length int, c int) int {
	for k := range c {
		if k*length/c <= place && place < (k+1)*length/c {
			return k
		}
	}
	panic("a place in no chunk")
}

// behindRounds goes through the rounds with what each worker has in one chunk:
// what is sent is as it was ahead of the round.
func behindRounds[T any](rounds [][]impl.Move, chunk int, own []T, add func(there T, came T) T) []T {
	now := slices.Clone(own)
	for _, round := range rounds {
		ahead := slices.Clone(now)
		for _, m := range round {
			switch {
			case m.Chunk != chunk:
			case m.Add:
				now[m.To] = add(now[m.To], ahead[m.From])
			default:
				now[m.To] = ahead[m.From]
			}
		}
	}
	return now
}

func plusExactly(a int, b int) int { return exact(new(big.Int).Add(wide(a), wide(b))) }

// wantNetRun says what the document says of RunMoves and RunFloats, number by
// number.
func wantNetRun(rounds [][]impl.Move, c int, values [][]int, add func(a int, b int) int) [][]int {
	n := len(values)
	if !wantMovesOk(rounds, n, c) {
		return nil
	}
	length := len(values[0])
	for _, list := range values {
		if len(list) != length || len(list) > testSize {
			return nil
		}
	}
	made := manyRows(n)
	for place := range length {
		own := []int{}
		for _, list := range values {
			own = append(own, list[place])
		}
		for worker, x := range behindRounds(rounds, chunkAt(place, length, c), own, add) {
			made[worker] = append(made[worker], x)
		}
	}
	return made
}

func wantRunMoves(rounds [][]impl.Move, c int, values [][]int) [][]int {
	if !allIn(0, impl.Prime-1, slices.Concat(values...)...) {
		return nil
	}
	return wantNetRun(rounds, c, values, plusExactly)
}

func wantRunFloats(rounds [][]impl.Move, c int, values [][]int) [][]int {
	return wantNetRun(rounds, c, values, wantAdd)
}

func checkRunMoves(t *testing.T, rounds [][]impl.Move, c int, values [][]int) [][]int {
	t.Helper()
	got, want := impl.RunMoves(rounds, c, values), wantRunMoves(rounds, c, values)
	if !sameLists(got, want) {
		t.Fatalf("RunMoves of %.300s with %d chunks of %.300s is %.300s, not %.300s", roundsText(rounds), c, fmt.Sprint(values), fmt.Sprint(got), fmt.Sprint(want))
	}
	return got
}

func checkRunFloats(t *testing.T, rounds [][]impl.Move, c int, values [][]int) [][]int {
	t.Helper()
	got, want := impl.RunFloats(rounds, c, values), wantRunFloats(rounds, c, values)
	if !sameLists(got, want) {
		t.Fatalf("RunFloats of %.300s with %d chunks of %.300x is %.300x, not %.300x", roundsText(rounds), c, values, got, want)
	}
	return got
}

func TestRunMovesRows(t *testing.T) {
	most := impl.Prime - 1
	for _, row := range []struct {
		rounds string
		c      int
		values [][]int
		want   [][]int
	}{
		{"", 1, rowsOf(ints(7)), rowsOf(ints(7))},
		{"", 5, rowsOf(ints(7, 8), ints(0, most)), rowsOf(ints(7, 8), ints(0, most))},
		{"|", 1, rowsOf(nil, nil, nil), rowsOf(nil, nil, nil)},
		{"1>0+0", 1, rowsOf(ints(1, 2), ints(10, 20)), rowsOf(ints(11, 22), ints(10, 20))},
		{"1>0=0", 1, rowsOf(ints(1, 2), ints(10, 20)), rowsOf(ints(10, 20), ints(10, 20))},
		{"1>0+1", 2, rowsOf(ints(1, 2), ints(10, 20)), rowsOf(ints(1, 22), ints(10, 20))},
		{"1>0=1", 2, rowsOf(ints(1, 2, 3), ints(10, 20, 30)), rowsOf(ints(1, 20, 30), ints(10, 20, 30))},
		{"1>0+0", 1, rowsOf(ints(1, most, most), ints(most, most, 1)), rowsOf(ints(0, most-1, 0), ints(most, most, 1))},
		// All is sent as it is ahead of the round.
		{"1>0+0 0>1+0", 1, rowsOf(ints(1), ints(10)), rowsOf(ints(11), ints(11))},
		{"1>0=0 0>1=0", 1, rowsOf(ints(1), ints(10)), rowsOf(ints(10), ints(1))},
		{"0>1+0 1>2+0", 1, rowsOf(ints(1), ints(10), ints(100)), rowsOf(ints(1), ints(11), ints(110))},
		{"1>2+0 0>1+0", 1, rowsOf(ints(1), ints(10), ints(100)), rowsOf(ints(1), ints(11), ints(110))},
		{"0>1=0 1>2=0 2>0=0", 1, rowsOf(ints(1), ints(10), ints(100)), rowsOf(ints(100), ints(1), ints(10))},
		{"0>1+0 | 1>2+0", 1, rowsOf(ints(1), ints(10), ints(100)), rowsOf(ints(1), ints(11), ints(111))},
		{"1>0=0 0>1+0", 1, rowsOf(ints(1), ints(10)), rowsOf(ints(10), ints(11))},
		{"0>1+0 0>2+0 1>0+0", 1, rowsOf(ints(1), ints(10), ints(100)), rowsOf(ints(11), ints(11), ints(101))},
		// Two double what they have.
		{"0>1+0 1>0+0 | 0>1+0 1>0+0 | 0>1+0 1>0+0", 1, rowsOf(ints(1<<30), ints(1<<30)), rowsOf(ints(4), ints(4))},
		{"0>1+0 1>0+1 | 0>1+0 1>0+1", 2, rowsOf(ints(1, 2), ints(10, 20)), rowsOf(ints(1, 42), ints(12, 20))},
		// A worker sends to itself.
		{"0>0+0", 1, rowsOf(ints(3, most)), nil},
		{"0>0=0", 1, rowsOf(ints(3, most)), nil},
		{"0>0+0", 1, rowsOf(ints(1), ints(2)), nil},
		{"0>0=0", 1, rowsOf(ints(1), ints(2)), nil},
		{"0>0+0 0>1+0", 1, rowsOf(ints(3), ints(5)), nil},
		{"0>1+0 | 1>1+1", 2, rowsOf(ints(1, 2), ints(10, 20)), nil},
		{"1>1=63", 64, rowsOf(nil, nil), nil},
		// Two chunks to one worker; one chunk in two rounds.
		{"1>0+0 2>0+1", 2, rowsOf(ints(1, 2), ints(10, 20), ints(100, 200)), rowsOf(ints(11, 202), ints(10, 20), ints(100, 200))},
		{"1>0+0 1>0=1", 2, rowsOf(ints(1, 2), ints(10, 20)), rowsOf(ints(11, 20), ints(10, 20))},
		{"1>0+0 | 2>0+0", 1, rowsOf(ints(1), ints(10), ints(100)), rowsOf(ints(111), ints(10), ints(100))},
		{"1>0+0 | 2>0=0 | 1>0+0", 1, rowsOf(ints(1), ints(10), ints(100)), rowsOf(ints(110), ints(10), ints(100))},
		// Chunks of none, of one, of two: of five numbers in three, of two in five.
		{"1>0+0", 3, rowsOf(ints(1, 2, 3, 4, 5), ints(10, 20, 30, 40, 50)), rowsOf(ints(11, 2, 3, 4, 5), ints(10, 20, 30, 40, 50))},
		{"1>0+1", 3, rowsOf(ints(1, 2, 3, 4, 5), ints(10, 20, 30, 40, 50)), rowsOf(ints(1, 22, 33, 4, 5), ints(10, 20, 30, 40, 50))},
		{"1>0+2", 3, rowsOf(ints(1, 2, 3, 4, 5), ints(10, 20, 30, 40, 50)), rowsOf(ints(1, 2, 3, 44, 55), ints(10, 20, 30, 40, 50))},
		{"1>0+0 1>0+1 1>0+3", 5, rowsOf(ints(1, 2), ints(10, 20)), rowsOf(ints(1, 2), ints(10, 20))},
		{"1>0+2", 5, rowsOf(ints(1, 2), ints(10, 20)), rowsOf(ints(11, 2), ints(10, 20))},
		{"1>0=4", 5, rowsOf(ints(1, 2), ints(10, 20)), rowsOf(ints(1, 20), ints(10, 20))},
		{"1>0+63", 64, rowsOf(ints(1), ints(10)), rowsOf(ints(11), ints(10))},
		{"1>0+62 1>0=0", 64, rowsOf(ints(1), ints(10)), rowsOf(ints(1), ints(10))},
		{"1>0+0 1>0=63", 64, rowsOf(nil, nil), rowsOf(nil, nil)},
		// What was said of a ring and a tree.
		{"0>1+0 1>2+1 2>0+2 | 0>1+2 1>2+0 2>0+1 | 0>1=1 1>2=2 2>0=0 | 0>1=0 1>2=1 2>0=2", 3, rowsOf(ints(1, 2, 3), ints(10, 20, 30), ints(100, 200, 300)), manyRows(3, 111, 222, 333)},
		{"1>0+0 | 2>0+0 | 0>2=0 | 0>1=0", 1, rowsOf(ints(1, 2, 3), ints(10, 20, 30), ints(100, 200, 300)), manyRows(3, 111, 222, 333)},
	} {
		if got := checkRunMoves(t, roundsIn(row.rounds), row.c, row.values); !sameLists(got, row.want) {
			t.Errorf("RunMoves of %s with %d chunks of %v is %v, not %v", row.rounds, row.c, row.values, got, row.want)
		}
	}
}

// wrongValues are no lists for a run, each with one that is like it and can
// be; both are n lists.
func wrongValues(n int) [][][]int {
	made := [][][]int{}
	for _, at := range ints(0, n/2, n-1) {
		short, long, empty := manyRows(n, 1, 2, 3), manyRows(n, 1, 2, 3), manyRows(n, 1, 2, 3)
		short[at], long[at], empty[at] = ints(1, 2), ints(1, 2, 3, 4), nil
		made = append(made, short, long, empty)
	}
	return append(made, manyRows(n, noughts(testSize+1)...), manyRows(n, noughts(2*testSize)...))
}

func TestRunsOfWrongLists(t *testing.T) {
	for _, rounds := range [][][]impl.Move{nil, {}, {{}}, roundsIn("0>0+0"), roundsIn("0>1+0"), roundsIn("1>0+0 | 0>1=0")} {
		for _, c := range ints(-1, 0, 1, 3, 64, 65) {
			for _, values := range [][][]int{nil, {}} {
				if len(checkRunMoves(t, rounds, c, values)) > 0 || len(checkRunFloats(t, rounds, c, values)) > 0 {
					t.Error("something comes of no lists")
				}
			}
			for _, n := range ints(2, 3, 64) {
				for _, values := range wrongValues(n) {
					if len(checkRunMoves(t, rounds, c, values)) > 0 || len(checkRunFloats(t, rounds, c, values)) > 0 {
						t.Errorf("something comes of %d lists that are not as said", n)
					}
				}
			}
			for _, n := range ints(65, 66, 128) {
				if len(checkRunMoves(t, rounds, c, manyRows(n, 1))) > 0 || len(checkRunFloats(t, rounds, c, manyRows(n, 1))) > 0 {
					t.Errorf("something comes of %d lists", n)
				}
			}
		}
	}
	if len(checkRunMoves(t, nil, 1, manyRows(64, 1))) != 64 || len(checkRunFloats(t, nil, 1, manyRows(64, 1))) != 64 || len(checkRunMoves(t, nil, 1, rowsOf(nil))) != 1 || len(checkRunFloats(t, nil, 64, rowsOf(nil))) != 1 {
		t.Error("nothing comes of lists that are as said")
	}
}

func TestRunsOfRoundsThatCanNotBe(t *testing.T) {
	values := rowsOf(ints(1, 2), ints(3, 4), ints(5, 6))
	for _, text := range []string{"3>0+0", "0>3+0", "0>1+2", "-1>0+0", "0>-1+0", "0>1+-1", "1>0+0 2>0+0", "1>0+0 2>0=0", "1>0+0 0>0+0", "0>1+0 | 1>2+0 1>2=0", "0>1+0 | 1>3+0", "0>0+0", "0>0=0", "2>2+1", "0>1+0 1>1=1", "0>1+0 | 2>2+0 | 1>0+0", "0>1+0 | 1>0=0 | 1>1=0"} {
		if len(checkRunMoves(t, roundsIn(text), 2, values)) > 0 || len(checkRunFloats(t, roundsIn(text), 2, values)) > 0 {
			t.Errorf("something comes of %s", text)
		}
	}
	for _, c := range slices.Concat(around(1, testWorkers), testInts()) {
		if got := checkRunMoves(t, roundsIn("0>1+0"), c, values); len(got) > 0 != allIn(1, testWorkers, c) {
			t.Errorf("RunMoves with %d chunks is %v", c, got)
		}
		if got := checkRunFloats(t, roundsIn("0>1+0"), c, values); len(got) > 0 != allIn(1, testWorkers, c) {
			t.Errorf("RunFloats with %d chunks is %v", c, got)
		}
	}
	empty := make([][]impl.Move, testRounds+1)
	if len(impl.RunMoves(empty, 1, values)) > 0 || len(impl.RunFloats(empty, 1, values)) > 0 || len(impl.RunMoves(empty[1:], 1, values)) != 3 || len(impl.RunFloats(empty[1:], 1, values)) != 3 {
		t.Error("runs of many rounds")
	}
}

// RunMoves wants numbers, each of them; RunFloats takes any int.
func TestRunMovesOfNoNumbers(t *testing.T) {
	for _, x := range append(around(0, impl.Prime-1), testInts()...) {
		for worker := range 3 {
			for place := range 4 {
				values := manyRows(3, 5, 6, 7, 8)
				values[worker][place] = x
				for _, text := range []string{"", "0>1+0", "1>2=1"} {
					if got := checkRunMoves(t, roundsIn(text), 2, values); len(got) > 0 != allIn(0, impl.Prime-1, x) {
						t.Errorf("RunMoves of %v is %v", values, got)
					}
					if len(checkRunFloats(t, roundsIn(text), 2, values)) != 3 {
						t.Errorf("RunFloats of %v is nothing", values)
					}
				}
			}
		}
	}
}

func TestRunMovesAtRandom(t *testing.T) {
	source := rand.New(rand.NewSource(281))
	some, none := 0, 0
	for range 5000 {
		n, c, length := 1+source.Intn(5), 1+source.Intn(5), source.Intn(12)
		rounds := randomRounds(source, n, c, source.Intn(6))
		values := [][]int{}
		for range n {
			values = append(values, randomNumbers(source, length))
		}
		switch source.Intn(12) {
		case 0:
			rounds = spoiltRounds(source, rounds, n, c)
		case 1:
			values = values[:n-1]
		case 2:
			values[source.Intn(n)] = randomNumbers(source, length+source.Intn(2))
		}
		if got := checkRunMoves(t, rounds, c, values); len(got) > 0 {
			some++
		} else {
			none++
		}
	}
	if some < 3000 || none < 200 {
		t.Errorf("%d run, %d don't", some, none)
	}
}

func TestRunMovesAtLimits(t *testing.T) {
	source := rand.New(rand.NewSource(282))
	long := [][]int{}
	for range 64 {
		long = append(long, randomNumbers(source, testSize))
	}
	for _, row := range []struct {
		name   string
		rounds [][]impl.Move
		n      int
		c      int
	}{
		{"Ring of 50", impl.Ring(50), 50, 50}, {"Ring of 49", impl.Ring(49), 49, 49}, {"Tree of 64", impl.Tree(64), 64, 1}, {"Nodes of 64, 7", impl.Nodes(64, 7), 64, 1},
	} {
		got := impl.RunMoves(row.rounds, row.c, long[:row.n])
		for place := range testSize {
			column := []int{}
			for _, list := range long[:row.n] {
				column = append(column, list[place])
			}
			for worker := range row.n {
				if len(got) != row.n || len(got[worker]) != testSize || got[worker][place] != sumExact(column) {
					t.Fatalf("%s: worker %d has not the sum at place %d", row.name, worker, place)
				}
			}
		}
	}
	// As many rounds and Moves as can be, of whole lists and of lists in many chunks.
	for _, c := range ints(1, 3, 64) {
		rounds := [][]impl.Move{}
		for number := range testRounds {
			round := fullRound(17, 1, number%3 > 0)[:16+min(1, number%3)]
			for at := range round {
				round[at].From, round[at].Chunk = otherThan(source, round[at].To, 17), source.Intn(c)
			}
			rounds = append(rounds, round)
		}
		if sendsIn(rounds) != testMoves {
			t.Fatalf("%d Moves", sendsIn(rounds))
		}
		short := [][]int{}
		for worker := range 17 {
			short = append(short, long[worker][:70])
		}
		checkRunMoves(t, rounds, c, short)
		if got := impl.RunMoves(rounds, c, long[:17]); len(got) != 17 || len(got[16]) != testSize {
			t.Error("RunMoves at its limits")
		}
		rounds[299] = append(rounds[299], sendOf(0, 16, source.Intn(c), true))
		if sendsIn(rounds) != testMoves+1 || len(checkRunMoves(t, rounds, c, short)) > 0 {
			t.Error("RunMoves beyond its limits")
		}
	}
	for _, c := range ints(1, 2, 3, 5, 7, 63, 64) {
		for _, length := range ints(0, 1, 2, 62, 63, 64, 65, 127, 128, 129, 500) {
			rounds := [][]impl.Move{}
			for chunk := range c {
				rounds = append(rounds, []impl.Move{sendOf(1, 0, chunk, chunk%2 == 0)})
			}
			checkRunMoves(t, rounds, c, rowsOf(long[0][:length], long[1][:length]))
			checkRunMoves(t, rounds[:c/2], c, rowsOf(long[0][:length], long[1][:length]))
		}
		checkRunMoves(t, [][]impl.Move{{sendOf(1, 0, c-1, true)}}, c, rowsOf(long[0], long[1]))
		checkRunMoves(t, [][]impl.Move{{sendOf(1, 0, c/2, false)}}, c, rowsOf(long[0], long[1]))
	}
}

func TestRunFloatsRows(t *testing.T) {
	const two24 = 0x4b800000
	for _, row := range []struct {
		rounds string
		c      int
		values [][]int
		want   [][]int
	}{
		{"1>0+0", 1, rowsOf(ints(oneFloat), ints(oneFloat)), rowsOf(ints(twoFloat), ints(oneFloat))},
		{"1>0+0 0>1+0", 1, rowsOf(ints(oneFloat), ints(oneFloat)), rowsOf(ints(twoFloat), ints(twoFloat))},
		// A worker sends to itself.
		{"0>0+0", 1, rowsOf(ints(oneFloat)), nil},
		{"0>0=0", 1, rowsOf(ints(-5)), nil},
		{"0>0+0", 1, rowsOf(ints(1), ints(2)), nil},
		{"0>0=0", 1, rowsOf(ints(1), ints(2)), nil},
		{"0>1+0 | 1>1=1", 2, rowsOf(ints(1), ints(2)), nil},
		// The zeros.
		{"1>0+0", 1, rowsOf(ints(0, minusZero, 0, minusZero), ints(0, minusZero, minusZero, 0)), rowsOf(ints(0, minusZero, 0, 0), ints(0, minusZero, minusZero, 0))},
		{"1>0+0", 1, rowsOf(ints(oneFloat), ints(oneFloat|minusZero)), rowsOf(ints(0), ints(oneFloat|minusZero))},
		{"1>0=0", 1, rowsOf(ints(0, minusZero), ints(minusZero, 0)), rowsOf(ints(minusZero, 0), ints(minusZero, 0))},
		// The infinities, and what overflows.
		{"1>0+0", 1, rowsOf(ints(plusInf, minusInf, plusInf, oneFloat), ints(plusInf, minusInf, minusInf, plusInf)), rowsOf(ints(plusInf, minusInf, impl.NaN, plusInf), ints(plusInf, minusInf, minusInf, plusInf))},
		{"1>0+0", 1, rowsOf(ints(greatestFloat), ints(greatestFloat)), rowsOf(ints(plusInf), ints(greatestFloat))},
		{"1>0+0", 1, rowsOf(ints(leastFloat), ints(leastFloat)), rowsOf(ints(2), ints(leastFloat))},
		// What is no number stays as it is until something is added.
		{"", 1, rowsOf(ints(plusInf+1, minusInf+1, 0x7fffffff, 0xffffffff)), rowsOf(ints(plusInf+1, minusInf+1, 0x7fffffff, 0xffffffff))},
		{"1>0=0", 1, rowsOf(ints(1, 2), ints(plusInf+1, 0xffffffff)), rowsOf(ints(plusInf+1, 0xffffffff), ints(plusInf+1, 0xffffffff))},
		{"1>0+0", 1, rowsOf(ints(0, 0), ints(plusInf+1, 0xffffffff)), rowsOf(ints(impl.NaN, impl.NaN), ints(plusInf+1, 0xffffffff))},
		{"1>0+0", 1, rowsOf(ints(plusInf+1, 0xffffffff), ints(0, 0)), rowsOf(ints(impl.NaN, impl.NaN), ints(0, 0))},
		// So do ints that are no floats.
		{"", 2, rowsOf(ints(-1, math.MinInt, math.MaxInt, 1<<32)), rowsOf(ints(-1, math.MinInt, math.MaxInt, 1<<32))},
		{"1>0=0", 1, rowsOf(ints(1, 2, 3), ints(-1, math.MinInt, 1<<32)), rowsOf(ints(-1, math.MinInt, 1<<32), ints(-1, math.MinInt, 1<<32))},
		{"1>0=0 | 0>2=0", 1, rowsOf(ints(1), ints(1<<32+oneFloat), ints(2)), manyRows(3, 1<<32+oneFloat)},
		{"1>0+0", 1, rowsOf(ints(oneFloat, oneFloat, 0), ints(-1, math.MinInt, 1<<32)), rowsOf(ints(impl.NaN, impl.NaN, impl.NaN), ints(-1, math.MinInt, 1<<32))},
		{"1>0+0", 1, rowsOf(ints(-1, math.MaxInt, 1<<32), ints(0, 0, 0)), rowsOf(ints(impl.NaN, impl.NaN, impl.NaN), ints(0, 0, 0))},
		{"1>0+0 | 2>0=0", 1, rowsOf(ints(0), ints(-1), ints(-7)), rowsOf(ints(-7), ints(-1), ints(-7))},
		{"1>0+1", 2, rowsOf(ints(-1, -1), ints(0, 0)), rowsOf(ints(-1, impl.NaN), ints(0, 0))},
		// Sums that hang on their order: 2^24 and 1 and 1.
		{"1>0+0 | 2>0+0", 1, rowsOf(ints(two24), ints(oneFloat), ints(oneFloat)), rowsOf(ints(two24), ints(oneFloat), ints(oneFloat))},
		{"2>1+0 | 1>0+0", 1, rowsOf(ints(two24), ints(oneFloat), ints(oneFloat)), rowsOf(ints(two24+1), ints(twoFloat), ints(oneFloat))},
		{"1>0+0 2>1+0 | 1>0+0", 1, rowsOf(ints(two24), ints(oneFloat), ints(oneFloat)), rowsOf(ints(two24+1), ints(twoFloat), ints(oneFloat))},
		{"1>0+0 | 2>0+0", 1, rowsOf(ints(two24), ints(two24|minusZero), ints(oneFloat)), rowsOf(ints(oneFloat), ints(two24|minusZero), ints(oneFloat))},
		{"2>0+0 | 1>0+0", 1, rowsOf(ints(two24), ints(two24|minusZero), ints(oneFloat)), rowsOf(ints(0), ints(two24|minusZero), ints(oneFloat))},
	} {
		if got := checkRunFloats(t, roundsIn(row.rounds), row.c, row.values); !sameLists(got, row.want) {
			t.Errorf("RunFloats of %s with %d chunks of %x is %x, not %x", row.rounds, row.c, row.values, got, row.want)
		}
	}
}

func randomFloats(source *rand.Rand, count int) []int {
	all, made := testFloats(), []int{}
	for range count {
		x := all[source.Intn(len(all))]
		if source.Intn(2) == 0 {
			x = someFloats(1, source.Int63())[0]
		}
		made = append(made, x)
	}
	return made
}

func TestRunFloatsAtRandom(t *testing.T) {
	source := rand.New(rand.NewSource(283))
	for range 1500 {
		n, c, length := 1+source.Intn(5), 1+source.Intn(4), source.Intn(8)
		rounds := randomRounds(source, n, c, source.Intn(5))
		values := [][]int{}
		for range n {
			values = append(values, randomFloats(source, length))
		}
		if got := checkRunFloats(t, rounds, c, values); len(got) != n {
			t.Fatalf("RunFloats of %s is nothing", roundsText(rounds))
		}
		checkRunFloats(t, spoiltRounds(source, rounds, n, c), c, values)
	}
	for _, x := range testFloats() {
		for _, y := range edgeFloats() {
			checkRunFloats(t, roundsIn("1>0+0 0>1=0 2>3+0"), 1, rowsOf(ints(x), ints(y), ints(x), ints(y)))
		}
	}
}

// wantComplete says what the document says of Complete, by exact counts.
func wantComplete(rounds [][]impl.Move, n int, c int) bool {
	if !wantMovesOk(rounds, n, c) {
		return false
	}
	for chunk := range c {
		own := [][]*big.Int{}
		for worker := range n {
			counts := []*big.Int{}
			for other := range n {
				counts = append(counts, wide(map[bool]int{true: 1}[other == worker]))
			}
			own = append(own, counts)
		}
		sum := func(there []*big.Int, came []*big.Int) []*big.Int {
			made := []*big.Int{}
			for at := range there {
				made = append(made, new(big.Int).Add(there[at], came[at]))
			}
			return made
		}
		for _, counts := range behindRounds(rounds, chunk, own, sum) {
			if slices.ContainsFunc(counts, func(x *big.Int) bool { return x.Cmp(wide(1)) != 0 }) {
				return false
			}
		}
	}
	return true
}

func checkComplete(t *testing.T, rounds [][]impl.Move, n int, c int) bool {
	t.Helper()
	got := impl.Complete(rounds, n, c)
	if got != wantComplete(rounds, n, c) {
		t.Fatalf("Complete of %.500s for %d workers and %d chunks is %v", roundsText(rounds), n, c, got)
	}
	return got
}

// P45: the collectives of the chapter are Complete.
func TestCollectivesAreComplete(t *testing.T) {
	for n := 1; n <= testWorkers; n++ {
		if impl.Complete(impl.Ring(n), n, n) != (n <= testRing) || !impl.Complete(impl.Tree(n), n, 1) {
			t.Errorf("Ring or Tree of %d and Complete", n)
		}
		for each := 1; each <= n+1 && each <= testWorkers; each++ {
			if !impl.Complete(impl.Nodes(n, each), n, 1) {
				t.Errorf("Nodes of %d, %d is not Complete", n, each)
			}
		}
		if !impl.Complete(impl.Nodes(n, testWorkers), n, 1) {
			t.Errorf("Nodes of %d, 64 is not Complete", n)
		}
		// For another number of workers or chunks they are not.
		for _, rounds := range [][][]impl.Move{impl.Ring(n), impl.Tree(n), impl.Nodes(n, 3)} {
			if impl.Complete(rounds, n+1, n+1) || n > 1 && (impl.Complete(rounds, n-1, n) || impl.Complete(rounds, n, n+1)) {
				t.Errorf("what is for %d workers is Complete for others", n)
			}
		}
		if n > 1 && (impl.Complete(impl.Tree(n), n, 2) || impl.Complete(impl.Ring(n), n, n-1) || impl.Complete(nil, n, 1)) {
			t.Errorf("what is for %d workers is Complete with other chunks", n)
		}
	}
	for _, n := range ints(1, 2, 3, 4, 5, 8, 13) {
		checkComplete(t, impl.Ring(n), n, n)
		checkComplete(t, impl.Tree(n), n, 1)
		checkComplete(t, impl.Nodes(n, 3), n, 1)
	}
}

// Whatever is changed in one Move, nothing that Ring, Tree and Nodes need can
// go, and what comes once more is there twice.
func TestChangedCollectivesAreNotComplete(t *testing.T) {
	for n := 2; n <= testWorkers; n = n + 1 + n/5 {
		for _, row := range []struct {
			rounds [][]impl.Move
			c      int
		}{{impl.Ring(n), n}, {impl.Tree(n), 1}, {impl.Nodes(n, 2), 1}, {impl.Nodes(n, 3), 1}, {impl.Nodes(n, (n+1)/2), 1}} {
			if sendsIn(row.rounds) >= testMoves {
				continue
			}
			for _, number := range ints(0, len(row.rounds)/2-1, len(row.rounds)/2, len(row.rounds)-1) {
				for _, place := range ints(0, len(row.rounds[number])-1) {
					without, again, other := copiedRounds(row.rounds), copiedRounds(row.rounds), copiedRounds(row.rounds)
					m := row.rounds[number][place]
					without[number] = slices.Delete(without[number], place, place+1)
					again = slices.Insert(again, number+1, []impl.Move{m})
					other[number][place].Add = !m.Add
					if impl.Complete(without, n, row.c) || impl.Complete(other, n, row.c) || impl.Complete(again, n, row.c) == m.Add {
						t.Errorf("%d workers: Move %v changed in round %d", n, m, number)
					}
					if n < 12 {
						checkComplete(t, without, n, row.c)
						checkComplete(t, other, n, row.c)
						checkComplete(t, again, n, row.c)
					}
				}
			}
		}
	}
}

func TestCompleteRows(t *testing.T) {
	for _, row := range []struct {
		rounds string
		n      int
		c      int
		ok     bool
	}{
		{"", 1, 1, true}, {"", 1, 64, true}, {"| |", 1, 3, true}, {"", 2, 1, false}, {"", 0, 1, false}, {"", 1, 0, false}, {"", 65, 1, false}, {"", 1, 65, false}, {"", -1, -1, false},
		{"0>1+0 1>0+0", 2, 1, true}, {"0>1+0 | 1>0=0", 2, 1, true}, {"0>1+0 | 1>0+0", 2, 1, false}, {"0>1+0", 2, 1, false}, {"0>1=0 1>0=0", 2, 1, false}, {"0>1=0", 2, 1, false}, {"1>0+0", 2, 1, false},
		// A worker sends to itself: it changes nothing, but it can't be.
		{"0>0=0", 1, 1, false}, {"0>0+0", 1, 1, false}, {"0>0=0", 1, 2, false}, {"0>0+1", 1, 2, false}, {"0>0=0 1>1=0", 2, 1, false}, {"0>1+0 1>0+0 | 0>0=0", 2, 1, false}, {"0>1+0 1>0+0 | 1>1=0", 2, 1, false}, {"0>0=0 | 0>1+0 1>0+0", 2, 1, false}, {"0>1+0 1>0+0 | 0>0+0", 2, 1, false}, {"0>0+0 | 0>1+0 1>0+0", 2, 1, false},
		// What was there twice may be replaced.
		{"0>1+0 1>0+0 | 1>0+0 1>2+0 | 2>0=0 2>1=0", 3, 1, true}, {"0>1+0 1>0+0 | 1>0+0 1>2+0 | 2>1=0", 3, 1, false}, {"0>1+0 1>0+0 | 0>1+0 | 0>1=0", 2, 1, true}, {"0>1+0 1>0+0 | 0>1+0 1>0+0", 2, 1, false}, {"0>1+0 1>0+0 | 0>1+0 | 1>0=0", 2, 1, false},
		// Of more than one chunk each must be whole.
		{"0>1+0 1>0+0", 2, 2, false}, {"0>1+1 1>0+1", 2, 2, false}, {"0>1+0 1>0+0 0>1+1 1>0+1", 2, 2, true}, {"0>1+0 1>0+0 | 0>1+1 | 1>0=1", 2, 2, true}, {"0>1+0 1>0+0 0>1+2 1>0+2", 2, 3, false},
		{"0>1+0 1>2+0 2>0+0 | 0>1+0 1>2+0 2>0+0", 3, 1, false}, {"0>1=0 1>2=0 2>0=0", 3, 1, false}, {"1>0+0 | 2>0+0 | 0>1=0 0>2=0", 3, 1, true}, {"2>1+0 | 1>0+0 | 0>1=0 0>2=0", 3, 1, true}, {"2>1+0 1>0+0 | 0>1=0 0>2=0", 3, 1, false}, {"2>1+0 1>0+0 | 2>0+0 | 0>1=0 0>2=0", 3, 1, true},
		// Two have the other's own twice, the one's own not at all.
		{"1>0=0 | 1>0+0 0>1+0", 2, 1, false}, {"0>1=0 | 0>1+0 1>0+0", 2, 1, false}, {"1>0=0 0>1=0 | 1>0+0 0>1+0", 2, 1, true},
		// Not MovesOk.
		{"0>1+0 1>0+0 | 0>2=0", 2, 1, false}, {"0>1+0 1>0+0 | 0>1=0 1>1=0", 2, 1, false}, {"0>1+0 1>0+0 | 0>1=1", 2, 1, false},
	} {
		if checkComplete(t, roundsIn(row.rounds), row.n, row.c) != row.ok {
			t.Errorf("Complete of %s for %d workers and %d chunks is not %v", row.rounds, row.n, row.c, row.ok)
		}
	}
}

// However often something is carried, it never looks like once.
func TestCompleteOfManyTimes(t *testing.T) {
	for count := range testRounds + 2 {
		both, grow := [][]impl.Move{}, [][]impl.Move{}
		for range count {
			both = append(both, []impl.Move{sendOf(0, 1, 0, true), sendOf(1, 0, 0, true)})
			grow = append(grow, []impl.Move{sendOf(0, 1, 0, true)})
		}
		if checkComplete(t, both, 2, 1) != (count == 1) {
			t.Errorf("Complete of %d times the double", count)
		}
		// So many times worker 0's own; one more round brings back one that is whole.
		if count > 0 && count < testRounds && checkComplete(t, append(grow, []impl.Move{sendOf(1, 0, 0, false)}), 2, 1) != (count == 1) {
			t.Errorf("Complete of %d times one's own", count)
		}
	}
	// All of it so often as a power of two, and once: in a word that runs over it looks like once.
	for power := range 292 {
		rounds := append(roundsIn("1>0+0 | 2>0+0 | 0>1=0 0>2=0"), slices.Repeat(roundsIn("1>2+0 2>1+0"), power)...)
		rounds = append(rounds, roundsIn("0>1+0 0>2+0")...)
		if checkComplete(t, rounds, 3, 1) {
			t.Errorf("Complete of 2^%d times and once", power)
		}
		if checkComplete(t, rounds[:3+power], 3, 1) != (power == 0) {
			t.Errorf("Complete of 2^%d times", power)
		}
	}
	// All of it so many times, in a count that goes round at some number once again.
	for _, times := range append(firstNumbers(2100), 1<<16+1, 1<<31+1, 1<<32+1, 1<<62+1) {
		rounds := roundsIn("1>0+0 | 2>0+0 | 0>1=0 0>2=0")
		for bit := bits.Len(uint(times)) - 2; bit >= 0; bit-- {
			rounds = append(rounds, roundsIn("1>2+0 2>1+0")...)
			if times>>bit&1 == 1 {
				rounds = append(rounds, roundsIn("0>1+0 0>2+0")...)
			}
		}
		if times > 0 && checkComplete(t, rounds, 3, 1) != (times == 1) {
			t.Errorf("Complete of %d times", times)
		}
	}
}

// relabelled gives the workers other numbers.
func relabelled(rounds [][]impl.Move, names []int) [][]impl.Move {
	made := copiedRounds(rounds)
	for _, round := range made {
		for at := range round {
			round[at].From, round[at].To = names[round[at].From], names[round[at].To]
		}
	}
	return made
}

// inChunks has the same collective of one chunk for each of c.
func inChunks(source *rand.Rand, rounds [][]impl.Move, n int, c int) [][]impl.Move {
	made := [][]impl.Move{}
	for chunk := range c {
		other := relabelled(rounds, source.Perm(n))
		for number, round := range other {
			for at := range round {
				round[at].Chunk = chunk
			}
			if number < len(made) {
				made[number] = append(made[number], round...)
			} else {
				made = append(made, round)
			}
		}
	}
	return made
}

// randomCollective is often Complete.
func randomCollective(source *rand.Rand) ([][]impl.Move, int, int) {
	n, c := 1+source.Intn(7), 1+source.Intn(3)
	var rounds [][]impl.Move
	switch source.Intn(5) {
	case 0:
		rounds, c = relabelled(impl.Ring(n), source.Perm(n)), n
	case 1:
		rounds = inChunks(source, impl.Tree(n), n, c)
	case 2:
		rounds = inChunks(source, impl.Nodes(n, 1+source.Intn(n+1)), n, c)
	case 3:
		n, c = 2, 1
		rounds = randomRounds(source, n, c, 1+source.Intn(4))
	default:
		rounds = randomRounds(source, n, c, 1+source.Intn(4))
	}
	// Behind it rounds without Add, among them some that change nothing.
	for range source.Intn(3) {
		round := randomRounds(source, n, c, 1)[0]
		for at := range round {
			round[at].Add = source.Intn(8) == 0
		}
		rounds = append(rounds, round)
	}
	if source.Intn(3) == 0 {
		rounds = spoiltRounds(source, rounds, n, c)
	}
	return rounds, n, c
}

// P45: whatever is Complete leaves every worker with the sum of all.
func TestCompleteLeavesTheSum(t *testing.T) {
	source := rand.New(rand.NewSource(284))
	complete, not := 0, 0
	for range 4000 {
		rounds, n, c := randomCollective(source)
		values := [][]int{}
		length := c + source.Intn(5)
		for range n {
			list := []int{}
			for range length {
				list = append(list, source.Intn(impl.Prime))
			}
			values = append(values, list)
		}
		sums := []int{}
		for place := range length {
			column := []int{}
			for _, list := range values {
				column = append(column, list[place])
			}
			sums = append(sums, sumExact(column))
		}
		got := checkRunMoves(t, rounds, c, values)
		ok := checkComplete(t, rounds, n, c)
		// With numbers by chance the sums are there only where all is complete.
		if ok != sameLists(got, manyRows(n, sums...)) {
			t.Fatalf("%s for %d workers and %d chunks is Complete: %v, but leaves %v of %v", roundsText(rounds), n, c, ok, got, values)
		}
		if ok {
			complete++
		} else {
			not++
		}
	}
	if complete < 1000 || not < 1000 {
		t.Errorf("%d are Complete, %d not", complete, not)
	}
}

// wantOrderText says what the document says of Order. No text is made ahead of
// its length being known.
func wantOrderText(rounds [][]impl.Move, n int, c int, worker int, chunk int) string {
	if !wantMovesOk(rounds, n, c) || !allIn(0, n-1, worker) || !allIn(0, c-1, chunk) {
		return ""
	}
	texts, lengths := []string{}, []int{}
	for number := range n {
		texts = append(texts, strconv.Itoa(number))
		lengths = append(lengths, len(texts[number]))
	}
	for k := range c {
		long := false
		behindRounds(rounds, k, lengths, func(there int, came int) int {
			sum := min(there+came+3, 1<<40)
			long = long || sum > testOrder
			return sum
		})
		if long {
			return ""
		}
	}
	return behindRounds(rounds, chunk, texts, func(there string, came string) string { return fmt.Sprintf("(%s+%s)", there, came) })[worker]
}

func checkOrder(t *testing.T, rounds [][]impl.Move, n int, c int, worker int, chunk int) string {
	t.Helper()
	got := impl.Order(rounds, n, c, worker, chunk)
	if want := wantOrderText(rounds, n, c, worker, chunk); got != want {
		t.Fatalf("Order of %.300s for %d workers and %d chunks at %d, %d is %.300s, not %.300s", roundsText(rounds), n, c, worker, chunk, got, want)
	}
	return got
}

func TestOrderRows(t *testing.T) {
	for _, row := range []struct {
		rounds string
		n      int
		c      int
		worker int
		chunk  int
		want   string
	}{
		{"", 1, 1, 0, 0, "0"}, {"", 64, 1, 63, 0, "63"}, {"| |", 12, 3, 10, 2, "10"}, {"1>0+0 | 0>1=0", 2, 1, 0, 0, "(0+1)"}, {"1>0+0 | 0>1=0", 2, 1, 1, 0, "(0+1)"}, {"0>1+0", 2, 1, 1, 0, "(1+0)"}, {"0>1+0", 2, 1, 0, 0, "0"},
		{"1>0=0", 2, 1, 0, 0, "1"}, {"1>0=0 | 1>0+0", 2, 1, 0, 0, "(1+1)"}, {"0>1+0 1>0+0 | 0>1+0", 2, 1, 1, 0, "((1+0)+(0+1))"}, {"11>10+0", 12, 1, 10, 0, "(10+11)"},
		{"1>0+0 | 2>0+0", 3, 1, 0, 0, "((0+1)+2)"}, {"2>1+0 | 1>0+0", 3, 1, 0, 0, "(0+(1+2))"}, {"2>1+0 1>0+0", 3, 1, 0, 0, "(0+1)"}, {"1>0+0 0>1+0", 2, 1, 0, 0, "(0+1)"}, {"1>0+0 0>1+0", 2, 1, 1, 0, "(1+0)"}, {"1>0=0 0>1=0", 2, 1, 1, 0, "0"},
		{"1>0+0 3>2+0 | 2>0+0", 4, 1, 0, 0, "((0+1)+(2+3))"}, {"1>0+0 3>2+0 | 2>0+0 | 0>2=0 | 0>1=0 2>3=0", 4, 1, 3, 0, "((0+1)+(2+3))"},
		{"1>0+1", 2, 2, 0, 0, "0"}, {"1>0+1", 2, 2, 0, 1, "(0+1)"}, {"1>0+1 0>1+0", 2, 2, 1, 0, "(1+0)"}, {"1>0+1 0>1+0", 2, 2, 1, 1, "1"},
		{"0>1+0 1>2+1 2>0+2 | 0>1+2 1>2+0 2>0+1 | 0>1=1 1>2=2 2>0=0 | 0>1=0 1>2=1 2>0=2", 3, 3, 0, 0, "(2+(1+0))"}, {"0>1+0 1>2+1 2>0+2 | 0>1+2 1>2+0 2>0+1 | 0>1=1 1>2=2 2>0=0 | 0>1=0 1>2=1 2>0=2", 3, 3, 0, 1, "(0+(2+1))"},
		// What is not as it should be.
		{"", 1, 1, -1, 0, ""}, {"", 1, 1, 1, 0, ""}, {"", 1, 1, 0, -1, ""}, {"", 1, 1, 0, 1, ""}, {"", 3, 5, 3, 0, ""}, {"", 3, 5, 2, 4, "2"}, {"", 3, 5, 4, 2, ""}, {"", 3, 5, 2, 5, ""}, {"", 3, 5, math.MinInt, 0, ""}, {"", 3, 5, math.MaxInt, 0, ""}, {"", 3, 5, 0, math.MinInt, ""}, {"", 3, 5, 0, math.MaxInt, ""},
		{"", 0, 1, 0, 0, ""}, {"", 1, 0, 0, 0, ""}, {"", 65, 1, 0, 0, ""}, {"", 1, 65, 0, 0, ""}, {"1>0+0 | 2>0+0", 2, 1, 0, 0, ""}, {"1>0+0 1>0=0", 2, 1, 0, 0, ""}, {"0>1+0 1>1+0", 2, 1, 0, 0, ""}, {"0>1+1", 2, 1, 0, 0, ""},
		// A worker sends to itself.
		{"0>0=0", 2, 1, 0, 0, ""}, {"0>0+0", 2, 1, 0, 0, ""}, {"0>0=0", 1, 1, 0, 0, ""}, {"0>0+0", 1, 1, 0, 0, ""}, {"1>1=0", 3, 2, 0, 1, ""}, {"0>1+0 | 2>2=1", 3, 2, 1, 0, ""}, {"1>1+0 | 0>1+0", 2, 1, 1, 0, ""},
	} {
		if got := checkOrder(t, roundsIn(row.rounds), row.n, row.c, row.worker, row.chunk); got != row.want {
			t.Errorf("Order of %s for %d workers and %d chunks at %d, %d is %s, not %s", row.rounds, row.n, row.c, row.worker, row.chunk, got, row.want)
		}
	}
}

func TestOrderOfCollectives(t *testing.T) {
	for n := 1; n <= testWorkers; n = n + 1 + n/6 {
		for _, row := range []struct {
			rounds [][]impl.Move
			c      int
		}{{impl.Ring(n), n}, {impl.Tree(n), 1}, {impl.Nodes(n, 2), 1}, {impl.Nodes(n, 3), 1}, {impl.Nodes(n, 7), 1}} {
			can := sendsIn(row.rounds) <= testMoves
			for _, worker := range slices.Concat(around(0, n-1), ints(n/2)) {
				for _, chunk := range slices.Concat(around(0, row.c-1), ints(row.c/2)) {
					got := checkOrder(t, row.rounds, n, row.c, worker, chunk)
					if len(got) > 0 != (can && allIn(0, n-1, worker) && allIn(0, row.c-1, chunk)) || len(got) > 0 && strings.Count(got, "+") != n-1 {
						t.Errorf("%d workers, %d chunks: Order at %d, %d is %s", n, row.c, worker, chunk, got)
					}
				}
			}
		}
	}
	// All workers of a tree have one text; the ring adds each chunk from its own worker on.
	for n := 2; n <= 9; n++ {
		ring := "0"
		for worker := 1; worker < n; worker++ {
			ring = "(" + strconv.Itoa(worker) + "+" + ring + ")"
		}
		for worker := range n {
			if impl.Order(impl.Tree(n), n, 1, worker, 0) != impl.Order(impl.Tree(n), n, 1, 0, 0) || impl.Order(impl.Ring(n), n, n, worker, 0) != ring {
				t.Errorf("%d workers: Order at %d", n, worker)
			}
		}
	}
}

// longRounds make worker 0 of 20, in chunk 0, hold a text of so many bytes: k
// numbers are 4 k - 3 bytes, and one more for each that has two digits.
func longRounds(bytes int) [][]impl.Move {
	long := (bytes + 3) % 4
	ones := (bytes+3-long)/4 - 1 - long
	rounds := [][]impl.Move{}
	for other := range long {
		rounds = append(rounds, []impl.Move{sendOf(10+other, 0, 0, true)})
	}
	for ones > 0 {
		round := roundsIn("1>2+0 2>1+0")[0]
		if ones%2 == 1 {
			round = append(round, sendOf(1, 0, 0, true))
		}
		if ones == 1 {
			round = round[2:]
		}
		ones /= 2
		rounds = append(rounds, round)
	}
	return rounds
}

func TestOrderOfLongTexts(t *testing.T) {
	for _, bytes := range ints(5, 9, 13, 26, 1000, 3997, 3998, 3999, 4000, 4001, 4002, 4003, 4004, 4005, 4100, 7000, 7999, 8000, 8003) {
		rounds, kept := longRounds(bytes), bytes
		if bytes > testOrder {
			kept = 0
		}
		if got := checkOrder(t, rounds, 20, 1, 0, 0); len(got) != kept {
			t.Errorf("Order has %d bytes, not %d", len(got), kept)
		}
		// At another worker, at another chunk, and both.
		for _, ask := range []struct {
			worker int
			chunk  int
			want   string
		}{{0, 0, "0"}, {19, 1, "19"}, {7, 1, "7"}, {1, 0, "1"}, {19, 0, "19"}} {
			inSecond := copiedRounds(rounds)
			for _, round := range inSecond {
				for at := range round {
					round[at].Chunk = 1
				}
			}
			if bytes > testOrder {
				ask.want = ""
			}
			if got := checkOrder(t, inSecond, 20, 2, ask.worker, ask.chunk); got != ask.want {
				t.Errorf("with %d bytes elsewhere Order at %d, %d is %s", bytes, ask.worker, ask.chunk, got)
			}
		}
		// Then it goes: each worker's own is that of another one, or a short one takes its place.
		for _, behind := range []string{"5>0=0", "5>0=0 4>1=0", "5>0=0 5>1=0 | 0>5+0 | |"} {
			got := checkOrder(t, append(longRounds(bytes), roundsIn(behind)...), 20, 1, 0, 0)
			if bytes > testOrder && got != "" || bytes <= testOrder && got != "5" {
				t.Errorf("with %d bytes on the way Order is %s", bytes, got)
			}
		}
		// In one round it is sent on and replaced; it is too long for whom it comes to.
		for _, behind := range []string{"0>5=0 5>0=0", "0>5=0", "0>5+0", "5>0+0", "0>5+0 5>0+0"} {
			checkOrder(t, append(longRounds(bytes), roundsIn(behind)...), 20, 1, 3, 0)
		}
	}
	// As often the double as there are rounds.
	for count := range testRounds + 2 {
		double := [][]impl.Move{}
		for range count {
			double = append(double, []impl.Move{sendOf(0, 1, 0, true), sendOf(1, 0, 0, true)})
		}
		if got := checkOrder(t, double, 3, 1, 2, 0); (got == "2") != (count <= 9) {
			t.Errorf("behind %d rounds Order is %s", count, got)
		}
		checkOrder(t, double, 3, 1, 0, 0)
	}
}

func TestOrderAtRandom(t *testing.T) {
	source := rand.New(rand.NewSource(285))
	some, none := 0, 0
	for range 5000 {
		n, c := 1+source.Intn(5)*source.Intn(5), 1+source.Intn(3)
		rounds := randomRounds(source, n, c, source.Intn(16))
		if source.Intn(8) == 0 {
			rounds = spoiltRounds(source, rounds, n, c)
		}
		if checkOrder(t, rounds, n, c, source.Intn(n+1)-source.Intn(9)/8, source.Intn(c+1)-source.Intn(9)/8) != "" {
			some++
		} else {
			none++
		}
	}
	if some < 1500 || none < 1500 {
		t.Errorf("%d have an order, %d none", some, none)
	}
}

// summedBy adds up what stands in a text of Order: own has each worker's float.
func summedBy(t *testing.T, order string, own []int) int {
	t.Helper()
	stack, at := []int{}, 0
	for at < len(order) {
		switch order[at] {
		case '(', '+':
			at++
		case ')':
			two := stack[len(stack)-2:]
			stack = append(stack[:len(stack)-2], impl.FAdd(two[0], two[1]))
			at++
		default:
			end := at
			for end < len(order) && order[end] >= '0' && order[end] <= '9' {
				end++
			}
			worker, err := strconv.Atoi(order[at:end])
			if err != nil {
				t.Fatalf("%.200s at %d", order, at)
			}
			stack, at = append(stack, own[worker]), end
		}
	}
	if len(stack) != 1 {
		t.Fatalf("%.200s is no order", order)
	}
	return stack[0]
}

// checkFloatOrder holds P46: floats end as the sum in the told Order.
func checkFloatOrder(t *testing.T, source *rand.Rand, rounds [][]impl.Move, n int, c int) int {
	t.Helper()
	length := c + source.Intn(3)
	values := [][]int{}
	for range n {
		values = append(values, randomFloats(source, length))
		if source.Intn(4) > 0 {
			values[len(values)-1] = someFloats(length, source.Int63())
		}
	}
	got, told := impl.RunFloats(rounds, c, values), 0
	for worker := range n {
		for chunk := range c {
			order := impl.Order(rounds, n, c, worker, chunk)
			if order == "" {
				return 0
			}
			told++
			for place := range length {
				if chunkAt(place, length, c) != chunk {
					continue
				}
				own := []int{}
				for _, list := range values {
					own = append(own, list[place])
				}
				if got[worker][place] != summedBy(t, order, own) {
					t.Fatalf("%.300s: worker %d has %x at place %d, but in the order %.300s it is %x", roundsText(rounds), worker, got[worker][place], place, order, summedBy(t, order, own))
				}
			}
		}
	}
	return told
}

func TestFloatsEndInTheToldOrder(t *testing.T) {
	source := rand.New(rand.NewSource(286))
	told := 0
	for range 600 {
		n, c := 1+source.Intn(6), 1+source.Intn(3)
		told += checkFloatOrder(t, source, randomRounds(source, n, c, source.Intn(6)), n, c)
		rounds, n, c := randomCollective(source)
		if impl.MovesOk(rounds, n, c) {
			told += checkFloatOrder(t, source, rounds, n, c)
		}
	}
	for _, n := range ints(2, 3, 5, 8, 13) {
		told += checkFloatOrder(t, source, impl.Ring(n), n, n)
		told += checkFloatOrder(t, source, impl.Tree(n), n, 1)
		told += checkFloatOrder(t, source, impl.Nodes(n, 3), n, 1)
	}
	for _, rounds := range [][][]impl.Move{impl.Tree(64), impl.Nodes(64, 9)} {
		told += checkFloatOrder(t, source, rounds, 64, 1)
	}
	if told < 3000 {
		t.Errorf("%d orders were told", told)
	}
}

// wantFinish says what the document says of Finish.
func wantFinish(rounds [][]impl.Move, n int, c int, speed []int) []int {
	if !wantMovesOk(rounds, n, c) || len(speed) != n || !allIn(1, testSpeed, speed...) {
		return nil
	}
	free := noughts(n)
	for _, round := range rounds {
		behind := noughts(n)
		for worker := range n {
			clock := free[worker]
			behind[worker] = max(behind[worker], clock)
			for _, m := range round {
				if m.From == worker {
					clock += speed[worker]
					behind[worker] = max(behind[worker], clock)
					behind[m.To] = max(behind[m.To], clock)
				}
			}
		}
		free = behind
	}
	return free
}

func checkFinish(t *testing.T, rounds [][]impl.Move, n int, c int, speed []int) []int {
	t.Helper()
	got, want := impl.Finish(rounds, n, c, speed), wantFinish(rounds, n, c, speed)
	if !slices.Equal(got, want) {
		t.Fatalf("Finish of %.300s for %d workers and %d chunks by %v is %v, not %v", roundsText(rounds), n, c, speed, got, want)
	}
	return got
}

func TestFinishRows(t *testing.T) {
	for _, row := range []struct {
		rounds string
		n      int
		c      int
		speed  []int
		want   []int
	}{
		{"", 1, 1, ints(7), ints(0)}, {"", 3, 2, ints(1, 1000, 5), ints(0, 0, 0)}, {"| |", 2, 1, ints(1, 1000), ints(0, 0)},
		{"0>1+0", 2, 1, ints(3, 5), ints(3, 3)}, {"0>1=0", 2, 1, ints(3, 5), ints(3, 3)}, {"1>0+0", 2, 1, ints(3, 5), ints(5, 5)}, {"0>1+0 1>0+0", 2, 1, ints(3, 5), ints(5, 5)}, {"0>1+0 | 1>0+0", 2, 1, ints(3, 5), ints(8, 8)}, {"0>1+0 |  | 1>0+0", 2, 1, ints(3, 5), ints(8, 8)},
		// Several Moves of one worker go one after the other, in order.
		{"0>1+0 0>2+0", 3, 1, ints(2, 1, 1), ints(4, 2, 4)}, {"0>2+0 0>1+0", 3, 1, ints(2, 1, 1), ints(4, 4, 2)}, {"0>1+0 0>1+1 0>1+2", 2, 3, ints(10, 1), ints(30, 30)}, {"0>1+0 0>2+0 1>2+1", 3, 2, ints(2, 3, 5), ints(4, 3, 4)}, {"1>2+1 0>1+0 0>2+0", 3, 2, ints(2, 3, 5), ints(4, 3, 4)},
		{"0>1+0 0>2+0 | 1>2+0 2>1+0", 3, 1, ints(2, 3, 5), ints(4, 9, 9)}, {"0>1+0 0>2+0 | 1>2+0", 3, 1, ints(2, 3, 5), ints(4, 5, 5)}, {"0>2+0 0>1+0 | 1>2+0", 3, 1, ints(2, 3, 5), ints(4, 7, 7)},
		// Who only receives, and who has nothing to do.
		{"1>0+0 2>0+1 3>0+2", 5, 3, ints(1, 5, 9, 2, 1000), ints(9, 5, 9, 2, 0)}, {"0>1+0 | 2>3+0", 4, 1, ints(7, 1000, 5, 1000), ints(7, 7, 5, 5)}, {"0>1+0 | 2>3+0 | 3>1+0", 4, 1, ints(7, 1000, 5, 4), ints(7, 9, 5, 9)}, {"0>1+0 0>1+1 | 2>1+0", 3, 2, ints(7, 1, 3), ints(14, 14, 3)},
		// A worker begins when it is free itself, not when the round does.
		{"0>1+0 | 2>0+0 | 0>2+0", 3, 1, ints(10, 1, 1), ints(20, 10, 20)}, {"0>1+0 | 2>3+0 2>1+0", 4, 1, ints(10, 1, 1, 1), ints(10, 10, 2, 1)},
		{"0>1+0 | 0>1=0 | 0>1+0", 2, 1, ints(1000, 1), ints(3000, 3000)}, {"0>1+0 0>1+1 1>0+1", 2, 2, ints(4, 9), ints(9, 9)},
		// A worker sends to itself.
		{"0>0+0", 1, 1, ints(4), nil}, {"0>0=0", 1, 1, ints(4), nil}, {"0>0+0", 2, 1, ints(3, 4), nil}, {"0>0=0", 2, 1, ints(3, 4), nil}, {"0>0=0 0>1+0", 2, 1, ints(4, 9), nil}, {"0>1+0 0>0=0", 2, 1, ints(4, 9), nil}, {"0>0+0 1>0+1", 2, 2, ints(4, 9), nil}, {"0>1+0 | 1>1+1 | 0>1=0", 2, 2, ints(1000, 1), nil},
		// A ring, a tree.
		{"0>1+0 1>2+1 2>0+2 | 0>1+2 1>2+0 2>0+1 | 0>1=1 1>2=2 2>0=0 | 0>1=0 1>2=1 2>0=2", 3, 3, ints(1, 1, 1), ints(4, 4, 4)}, {"0>1+0 1>2+1 2>0+2 | 0>1+2 1>2+0 2>0+1 | 0>1=1 1>2=2 2>0=0 | 0>1=0 1>2=1 2>0=2", 3, 3, ints(1, 5, 1), ints(16, 20, 20)},
		{"1>0+0 | 2>0+0 | 0>2=0 | 0>1=0", 3, 1, ints(1, 1, 1), ints(3, 3, 2)}, {"1>0+0 | 2>0+0 | 0>2=0 | 0>1=0", 3, 1, ints(2, 3, 50), ints(54, 54, 52)},
		// What is not as it should be.
		{"", 1, 1, ints(0), nil}, {"", 1, 1, ints(1), ints(0)}, {"", 1, 1, ints(1000), ints(0)}, {"", 1, 1, ints(1001), nil}, {"", 1, 1, ints(-1), nil}, {"", 1, 1, nil, nil}, {"", 1, 1, ints(1, 1), nil}, {"", 2, 1, ints(1), nil}, {"", 0, 1, nil, nil}, {"", 2, 1, ints(1, math.MaxInt), nil}, {"", 2, 1, ints(math.MinInt, 1), nil}, {"", 1, 0, ints(1), nil}, {"0>1+0", 1, 1, ints(1), nil}, {"0>1+0 1>1+0", 2, 1, ints(1, 1), nil},
	} {
		if got := checkFinish(t, roundsIn(row.rounds), row.n, row.c, row.speed); !slices.Equal(got, row.want) {
			t.Errorf("Finish of %s for %d workers by %v is %v, not %v", row.rounds, row.n, row.speed, got, row.want)
		}
	}
}

func TestFinishOfWrongSpeeds(t *testing.T) {
	for _, n := range ints(1, 2, 3, 64) {
		right := slices.Repeat(ints(1000), n)
		for _, at := range ints(0, n/2, n-1) {
			for _, x := range slices.Concat(around(1, testSpeed), ints(0, -1, 1<<32+1), testInts()) {
				if got := checkFinish(t, impl.Tree(n), n, 1, replaced(right, at, x)); len(got) > 0 != allIn(1, testSpeed, x) {
					t.Errorf("Finish with a speed of %d is %v", x, got)
				}
			}
		}
		for _, speed := range rowsOf(nil, right[:n-1], append(slices.Clone(right), 1), append(slices.Clone(right), 0)) {
			if got := checkFinish(t, impl.Tree(n), n, 1, speed); len(got) > 0 {
				t.Errorf("Finish of %d workers with %d speeds is %v", n, len(speed), got)
			}
		}
	}
	for _, x := range slices.Concat(around(1, testWorkers), testInts()) {
		if allIn(0, 100, x) {
			checkFinish(t, nil, x, 1, slices.Repeat(ints(1), x))
		}
		if len(checkFinish(t, nil, x, 1, nil)) > 0 || len(checkFinish(t, nil, 1, x, ints(1))) > 0 != allIn(1, testWorkers, x) {
			t.Errorf("Finish with %d", x)
		}
	}
}

func randomSpeeds(source *rand.Rand, n int) []int {
	speed := []int{}
	for range n {
		speed = append(speed, ints(1, 2, 1+source.Intn(9), 1+source.Intn(testSpeed), testSpeed)[source.Intn(5)])
	}
	return speed
}

// P47: nobody is done earlier for a slower one.
func TestFinishAtRandom(t *testing.T) {
	source := rand.New(rand.NewSource(287))
	for range 6000 {
		n, c := 1+source.Intn(6), 1+source.Intn(4)
		rounds := randomRounds(source, n, c, source.Intn(6))
		if source.Intn(3) == 0 {
			rounds, n, c = randomCollective(source)
		}
		speed := randomSpeeds(source, n)
		before := checkFinish(t, rounds, n, c, speed)
		slow := source.Intn(n)
		speed[slow] = min(speed[slow]+1+source.Intn(20), testSpeed)
		for worker, done := range checkFinish(t, rounds, n, c, speed) {
			if done < before[worker] {
				t.Fatalf("%s: worker %d is done at %d, not %d, when %d is slower", roundsText(rounds), worker, done, before[worker], slow)
			}
		}
	}
}

// P47: Ring, all equally fast, takes 2 (n - 1) sends; it is Ring that sends
// each worker so many chunks.
func TestFinishOfRing(t *testing.T) {
	for n := 1; n <= testWorkers; n++ {
		for _, unit := range ints(1, 2, 7, 999, 1000) {
			speed := slices.Repeat(ints(unit), n)
			if n > testRing {
				if got := checkFinish(t, impl.Ring(n), n, n, speed); len(got) > 0 {
					t.Errorf("Finish of Ring of %d, which is not MovesOk, is %v", n, got)
				}
				continue
			}
			if got := checkFinish(t, impl.Ring(n), n, n, speed); !slices.Equal(got, slices.Repeat(ints(2*(n-1)*unit), n)) {
				t.Errorf("Finish of Ring of %d by %d is %v", n, unit, got)
			}
			for _, slow := range ints(0, n/2, n-1) {
				got := checkFinish(t, impl.Ring(n), n, n, replaced(speed, slow, min(unit+n, 1000)))
				if !allIn(2*(n-1)*unit, math.MaxInt, got...) {
					t.Errorf("Finish of Ring of %d by %d, %d slower, is %v", n, unit, slow, got)
				}
			}
		}
		sent, came := noughts(n), noughts(n)
		for _, m := range slices.Concat(impl.Ring(n)...) {
			sent[m.From]++
			came[m.To]++
		}
		if even := slices.Repeat(ints(2*(n-1)), n); !slices.Equal(sent, even) || !slices.Equal(came, even) {
			t.Errorf("Ring of %d sends %v, to %v", n, sent, came)
		}
	}
	if got := checkFinish(t, slices.Repeat([][]impl.Move{fullRound(16, 1, true)}, 300), 16, 1, slices.Repeat(ints(1000), 16)); !slices.Equal(got, slices.Repeat(ints(300000), 16)) {
		t.Errorf("Finish of many rounds is %v", got)
	}
	most := [][]impl.Move{slices.Repeat([]impl.Move{{To: 1}}, 64)}
	for chunk := range most[0] {
		most[0][chunk].Chunk = chunk
	}
	if got := checkFinish(t, slices.Repeat(most, 78), 2, 64, ints(1000, 1)); !slices.Equal(got, ints(78*64*1000, 78*64*1000)) {
		t.Errorf("Finish of a worker that sends nearly all that can be is %v", got)
	}
}

// A netCall is one of the chapter's functions that run rounds, shown as a text.
type netCall struct {
	name string
	call func() string
}

func netCalls(rounds [][]impl.Move, c int, values [][]int, speed []int) []netCall {
	n := len(values)
	return []netCall{
		{"RunMoves", func() string { return fmt.Sprint(impl.RunMoves(rounds, c, values)) }},
		{"RunFloats", func() string { return fmt.Sprint(impl.RunFloats(rounds, c, values)) }},
		{"Complete", func() string { return fmt.Sprint(impl.Complete(rounds, n, c)) }},
		{"Order", func() string { return impl.Order(rounds, n, c, n-1, c-1) }},
		{"Finish", func() string { return fmt.Sprint(impl.Finish(rounds, n, c, speed)) }},
	}
}

// waitsFor asks again and again, for some seconds.
func waitsFor(holds func() bool) bool {
	for range 2000 {
		if holds() {
			return true
		}
		time.Sleep(time.Millisecond)
	}
	return false
}

// However the goroutines run, the answers are the same, and none of them is
// left.
func TestNetHangsOnNoGoroutine(t *testing.T) {
	source := rand.New(rand.NewSource(288))
	before := runtime.NumGoroutine()
	defer runtime.GOMAXPROCS(runtime.GOMAXPROCS(0))
	for range 60 {
		n, c := 1+source.Intn(9), 1+source.Intn(5)
		rounds := randomRounds(source, n, c, source.Intn(12))
		values := [][]int{}
		for range n {
			values = append(values, randomNumbers(source, c+3))
		}
		calls := netCalls(rounds, c, values, randomSpeeds(source, n))
		runtime.GOMAXPROCS(1)
		wanted := []string{}
		for _, one := range calls {
			wanted = append(wanted, one.call())
		}
		for _, processors := range ints(1, 2, 8) {
			runtime.GOMAXPROCS(processors)
			// Several at a time, with the same arguments.
			var all sync.WaitGroup
			for number, one := range calls {
				for range 3 {
					all.Go(func() {
						if got := one.call(); got != wanted[number] {
							t.Errorf("%s of %s is %s, then %s", one.name, roundsText(rounds), wanted[number], got)
						}
					})
				}
			}
			all.Wait()
		}
	}
	// What is refused on the way leaves none either.
	for range 20 {
		impl.Order(longRounds(5000), 20, 1, 0, 0)
		impl.Order(longRounds(8000), 20, 1, 0, 0)
		checkNothingRun(t, roundsIn("1>0+0 | 1>0+0 2>0=0"), 3, 1)
	}
	if !waitsFor(func() bool { return runtime.NumGoroutine() <= before }) {
		t.Errorf("%d goroutines are left, %d were there", runtime.NumGoroutine(), before)
	}
}

func TestNetListsAreLeftAlone(t *testing.T) {
	source := rand.New(rand.NewSource(289))
	for range 300 {
		n, c := 1+source.Intn(5), 1+source.Intn(4)
		rounds := randomRounds(source, n, c, source.Intn(5))
		if source.Intn(4) == 0 {
			rounds = spoiltRounds(source, rounds, n, c)
		}
		values := [][]int{}
		for range n {
			values = append(values, randomNumbers(source, source.Intn(2)*7+1))
		}
		if source.Intn(3) > 0 {
			values = manyRows(n, randomNumbers(source, 6)...)
		}
		rounds, values = withRooms(rounds), withRooms(values)
		speed := withRooms(randomSpeeds(source, n))
		checkLeftAlone(t, "MovesOk", func() bool { return impl.MovesOk(rounds, n, c) }, rounds)
		checkLeftAlone(t, "RunMoves", func() [][]int { return impl.RunMoves(rounds, c, values) }, rounds, values)
		checkLeftAlone(t, "RunFloats", func() [][]int { return impl.RunFloats(rounds, c, values) }, rounds, values)
		checkLeftAlone(t, "Complete", func() bool { return impl.Complete(rounds, n, c) }, rounds)
		checkLeftAlone(t, "Order", func() string { return impl.Order(rounds, n, c, n-1, c-1) }, rounds)
		checkLeftAlone(t, "Finish", func() []int { return impl.Finish(rounds, n, c, speed) }, rounds, speed)
	}
	for n := range 10 {
		checkLeftAlone(t, "Ring", func() [][]impl.Move { return impl.Ring(n) })
		checkLeftAlone(t, "Tree", func() [][]impl.Move { return impl.Tree(n) })
		checkLeftAlone(t, "Nodes", func() [][]impl.Move { return impl.Nodes(n, 3) })
		// A collective that was written into is as it was when it is asked for again.
		for _, round := range slices.Concat(impl.Ring(n), impl.Tree(n), impl.Nodes(n, 2)) {
			for at := range round[:cap(round)] {
				round[:cap(round)][at] = sendOf(-7, -7, -7, true)
			}
		}
		checkCollective(t, "Ring once more", impl.Ring(n), wantRing(n))
		checkCollective(t, "Tree once more", impl.Tree(n), wantStoreyOne(n))
		checkCollective(t, "Nodes once more", impl.Nodes(n, 2), wantNodes(n, 2))
	}
	// One list may stand for several workers, and nobody's list at the end is another one's.
	same := withRooms(ints(1, 2, 3, 4, 5))
	for _, text := range []string{"", "0>1=0 0>2=0", "0>1=0 0>2=1 0>1=1 0>2=0", "0>1+0 1>2+0 | 0>2=1 | 2>0=0", "1>0=0 0>1+1", "0>0=0 1>1+1"} {
		values := rowsOf(same, same, same)
		checkRunMoves(t, roundsIn(text), 2, values)
		checkLeftAlone(t, "RunMoves", func() [][]int { return impl.RunMoves(roundsIn(text), 2, values) }, same)
		checkLeftAlone(t, "RunFloats", func() [][]int { return impl.RunFloats(roundsIn(text), 2, values) }, same)
	}
	got := impl.RunMoves(roundsIn("0>1=0 0>2=0"), 1, rowsOf(same, same, same))
	scribble(got[0])
	if !slices.Equal(got[1], same) || !slices.Equal(got[2], same) || !slices.Equal(same, ints(1, 2, 3, 4, 5)) {
		t.Errorf("what was written into one list stands in others: %v", got)
	}
}

// What stands behind the ends of lists is not read.
func TestRoomBehindRoundsIsNotRead(t *testing.T) {
	plain := roundsIn("1>0+0 2>1+1 | 0>2=0")
	rounds := append(copiedRounds(plain), []impl.Move{sendOf(9, 9, 9, true)})[:2]
	for number, round := range rounds {
		rounds[number] = append(slices.Clone(round), sendOf(9, 9, 9, true), round[0])[:len(round)]
	}
	values := rowsOf(ints(1, 2, 3, -1)[:3], ints(4, 5, 6, 7)[:3], ints(7, 8, 9)[:3], ints(1))[:3]
	if !checkMovesOk(t, rounds, 3, 2) || !sameLists(checkRunMoves(t, rounds, 2, values), rowsOf(ints(5, 2, 3), ints(4, 13, 15), ints(5, 8, 9))) {
		t.Error("what stands behind lists was read")
	}
	if checkOrder(t, rounds, 3, 2, 2, 0) != "(0+1)" || !slices.Equal(checkFinish(t, rounds, 3, 2, ints(1, 2, 3, 0)[:3]), ints(3, 3, 3)) {
		t.Error("what stands behind rounds was read")
	}
	whole := append(roundsIn("0>1+0 1>0+0"), roundsIn("0>1+0")...)
	if !checkComplete(t, whole[:1], 2, 1) || checkComplete(t, whole, 2, 1) {
		t.Error("Complete of a beginning")
	}
}

// None of the functions panics, at whatever ints.
func TestNetAtAnyInts(t *testing.T) {
	source := rand.New(rand.NewSource(290))
	all := append(testInts(), around(0, testWorkers)...)
	pickInt := func() int {
		if source.Intn(2) == 0 {
			return source.Intn(4)
		}
		return all[source.Intn(len(all))]
	}
	for range 4000 {
		rounds := [][]impl.Move{}
		for range source.Intn(3) {
			round := []impl.Move{}
			for range source.Intn(3) {
				round = append(round, sendOf(pickInt(), pickInt(), pickInt(), source.Intn(2) == 0))
			}
			rounds = append(rounds, round)
		}
		n, c := pickInt(), pickInt()
		checkMovesOk(t, rounds, n, c)
		checkComplete(t, rounds, n, c)
		checkOrder(t, rounds, n, c, pickInt(), pickInt())
		checkFinish(t, rounds, n, c, ints(pickInt(), pickInt(), pickInt())[:source.Intn(4)])
		values := rowsOf(ints(pickInt()), ints(pickInt()), ints(pickInt()), ints(pickInt(), pickInt()))[:source.Intn(5)]
		checkRunMoves(t, rounds, c, values)
		checkRunFloats(t, rounds, c, values)
	}
}

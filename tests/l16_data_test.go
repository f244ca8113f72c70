package tests

import (
	"fmt"
	"math"
	"math/big"
	"math/rand"
	"slices"
	"testing"

	"loop.example/g00033/impl"
)

const (
	testItems   = 4096
	testWorkers = 64
	testState   = 1<<32 - 1
	testBelow   = 1 << 31
	testEpochs  = 1000000
	testSkips   = 1000000000000
)

func TestDataLimits(t *testing.T) {
	if impl.MaxItems != testItems || impl.MaxWorkers != testWorkers {
		t.Error("the limits of chapter 16")
	}
}

// wantNextState says what the document says of NextState.
func wantNextState(s int) int {
	if s < 0 || s > testState {
		return 0
	}
	sum := new(big.Int).Add(product(1664525, s), wide(1013904223))
	return int(sum.Mod(sum, wide(1<<32)).Int64())
}

func checkNextState(t *testing.T, s int) int {
	t.Helper()
	got := impl.NextState(s)
	if want := wantNextState(s); got != want {
		t.Fatalf("NextState of %d is %d, not %d", s, got, want)
	}
	return got
}

func TestNextStateRows(t *testing.T) {
	for _, row := range [][2]int{
		{0, 1013904223}, {1, 1015568748}, {2, 1017233273}, {1 << 31, 3161387871}, {1<<32 - 1, 1012239698}, {1<<32 - 2, 1010575173}, {1013904223, 1196435762},
		{1 << 32, 0}, {1<<32 + 1, 0}, {1 << 33, 0}, {1 << 62, 0}, {-1, 0}, {-2, 0}, {-1 << 32, 0}, {math.MinInt, 0}, {math.MinInt + 1, 0}, {math.MaxInt, 0}, {math.MaxInt - 1, 0},
	} {
		if got := checkNextState(t, row[0]); got != row[1] {
			t.Errorf("NextState of %d is %d, not %d", row[0], got, row[1])
		}
	}
}

// stateInts are states of each size, and ints that are none.
func stateInts(source *rand.Rand, count int) []int {
	made := append(testInts(), around(0, testState)...)
	for bit := range 32 {
		made = append(made, 1<<bit-1, 1<<bit, 1<<bit+1, testState-1<<bit)
	}
	for range count {
		made = append(made, source.Intn(1<<32)>>source.Intn(32))
	}
	return made
}

func TestNextStateAgainstWords(t *testing.T) {
	source := rand.New(rand.NewSource(260))
	for _, s := range stateInts(source, 20000) {
		checkNextState(t, s)
	}
	s := 0
	for range 20000 {
		if s = checkNextState(t, s); s < 0 || s > testState {
			t.Fatalf("%d is no state", s)
		}
	}
}

// wantBelow says what the document says of Below.
func wantBelow(s int, n int) (int, int) {
	if s < 0 || s > testState || n < 1 || n > testBelow {
		return 0, s
	}
	next := wantNextState(s)
	number := product(next, n)
	return int(number.Div(number, wide(1<<32)).Int64()), next
}

func checkBelow(t *testing.T, s int, n int) (int, int) {
	t.Helper()
	number, next := impl.Below(s, n)
	if want, wantNext := wantBelow(s, n); number != want || next != wantNext {
		t.Fatalf("Below of %d, %d is %d, %d, not %d, %d", s, n, number, next, want, wantNext)
	}
	if number < 0 || n > 0 && number >= n {
		t.Fatalf("Below of %d, %d is %d", s, n, number)
	}
	return number, next
}

func TestBelowRows(t *testing.T) {
	for _, row := range [][4]int{
		{0, 1, 0, 1013904223}, {0, 2, 0, 1013904223}, {0, 3, 0, 1013904223}, {0, 10, 2, 1013904223}, {0, 1<<31 - 1, 506952111, 1013904223}, {0, 1 << 31, 506952111, 1013904223},
		{1, 10, 2, 1015568748}, {1, 1<<31 - 1, 507784373, 1015568748}, {1, 1 << 31, 507784374, 1015568748},
		{1 << 31, 1, 0, 3161387871}, {1 << 31, 2, 1, 3161387871}, {1 << 31, 3, 2, 3161387871}, {1 << 31, 10, 7, 3161387871}, {1 << 31, 1<<31 - 1, 1580693934, 3161387871}, {1 << 31, 1 << 31, 1580693935, 3161387871},
		{1<<32 - 1, 1, 0, 1012239698}, {1<<32 - 1, 10, 2, 1012239698}, {1<<32 - 1, 1<<31 - 1, 506119848, 1012239698}, {1<<32 - 1, 1 << 31, 506119849, 1012239698},
		// n is none: the state stays.
		{0, 0, 0, 0}, {7, 0, 0, 7}, {7, -1, 0, 7}, {7, 1<<31 + 1, 0, 7}, {7, 1 << 32, 0, 7}, {7, math.MinInt, 0, 7}, {7, math.MaxInt, 0, 7}, {1<<32 - 1, 0, 0, 1<<32 - 1}, {1<<32 - 1, 1<<31 + 1, 0, 1<<32 - 1},
		// s is no state, and stays too.
		{1 << 32, 10, 0, 1 << 32}, {-1, 10, 0, -1}, {math.MinInt, 10, 0, math.MinInt}, {math.MaxInt, 10, 0, math.MaxInt}, {1 << 32, 1, 0, 1 << 32}, {-1, 1 << 31, 0, -1},
		// Neither is right.
		{1 << 32, 0, 0, 1 << 32}, {-1, -1, 0, -1}, {-1, 1<<31 + 1, 0, -1}, {math.MinInt, math.MinInt, 0, math.MinInt}, {math.MaxInt, math.MaxInt, 0, math.MaxInt}, {math.MinInt, math.MaxInt, 0, math.MinInt}, {1 << 32, 1 << 32, 0, 1 << 32},
	} {
		if number, next := checkBelow(t, row[0], row[1]); number != row[2] || next != row[3] {
			t.Errorf("Below of %d, %d is %d, %d", row[0], row[1], number, next)
		}
	}
}

func TestBelowAgainstWords(t *testing.T) {
	source := rand.New(rand.NewSource(261))
	sizes := append(around(1, testBelow), 0, -2, 2, 3, 10, 64, 1000, 4096, 1<<32-1, 1<<32, 1<<33, 1<<62)
	for _, s := range stateInts(source, 300) {
		for _, n := range sizes {
			checkBelow(t, s, n)
		}
		for range 20 {
			checkBelow(t, s, 1+source.Intn(1<<31)>>source.Intn(31))
		}
	}
	// With the greatest next state there is the greatest number that can be.
	s := wantStateBefore(testState)
	for _, n := range ints(1, 2, 3, 1000, 1<<31-1, 1<<31) {
		if number, next := checkBelow(t, s, n); number != n-1 || next != testState {
			t.Errorf("Below of %d, %d is %d, %d", s, n, number, next)
		}
	}
	if number, next := checkBelow(t, wantStateBefore(0), 1<<31); number != 0 || next != 0 {
		t.Errorf("Below of the state ahead of 0 is %d, %d", number, next)
	}
}

// wantStateBefore is the one state of which the next is s.
func wantStateBefore(s int) int {
	back := new(big.Int).ModInverse(wide(1664525), wide(1<<32))
	back.Mul(back, new(big.Int).Sub(wide(s), wide(1013904223)))
	return int(back.Mod(back, wide(1<<32)).Int64())
}

// wantShuffle says what the document says of Shuffle.
func wantShuffle(seed int, n int) []int {
	if n < 0 || n > testItems || seed < 0 || seed > testState {
		return []int{}
	}
	order, s := firstNumbers(n), seed
	for i := n - 1; i >= 1; i-- {
		j := 0
		j, s = wantBelow(s, i+1)
		was := order[i]
		order[i] = order[j]
		order[j] = was
	}
	return order
}

func isPermutation(order []int, n int) bool {
	sorted := slices.Clone(order)
	slices.Sort(sorted)
	return slices.Equal(sorted, firstNumbers(n))
}

// checkShuffle holds Shuffle to the words, and P40.
func checkShuffle(t *testing.T, seed int, n int) []int {
	t.Helper()
	got := impl.Shuffle(seed, n)
	if want := wantShuffle(seed, n); !slices.Equal(got, want) {
		t.Fatalf("Shuffle of %d, %d is %.200s, not %.200s", seed, n, fmt.Sprint(got), fmt.Sprint(want))
	}
	if right := allIn(0, testState, seed) && allIn(0, testItems, n); right && !isPermutation(got, n) || !right && len(got) != 0 {
		t.Fatalf("Shuffle of %d, %d is %.200s", seed, n, fmt.Sprint(got))
	}
	return got
}

func TestShuffleRows(t *testing.T) {
	for _, row := range []struct {
		seed, n int
		want    []int
	}{
		{0, 0, nil}, {0, 1, ints(0)}, {0, 2, ints(1, 0)}, {1, 2, ints(1, 0)}, {1 << 31, 2, ints(0, 1)}, {0, 3, ints(1, 2, 0)}, {1, 3, ints(1, 2, 0)},
		{0, 5, ints(0, 3, 2, 4, 1)}, {9, 5, ints(4, 3, 2, 0, 1)}, {10, 5, ints(2, 3, 4, 0, 1)}, {11, 5, ints(2, 0, 3, 4, 1)},
		{0, 10, ints(0, 5, 7, 1, 3, 8, 4, 6, 9, 2)}, {1, 10, ints(9, 5, 6, 8, 1, 0, 7, 4, 3, 2)}, {1<<32 - 1, 10, ints(0, 7, 9, 3, 5, 6, 4, 8, 1, 2)}, {1<<32 - 2, 10, ints(7, 6, 9, 1, 5, 8, 4, 3, 0, 2)},
		{7, 16, ints(7, 4, 10, 1, 2, 5, 6, 14, 11, 15, 9, 0, 12, 8, 13, 3)},
		// n is none, seed is none, neither is one.
		{0, -1, nil}, {0, -2, nil}, {0, 4097, nil}, {0, math.MinInt, nil}, {0, math.MaxInt, nil}, {7, 1 << 32, nil},
		{1 << 32, 5, nil}, {-1, 5, nil}, {math.MinInt, 5, nil}, {math.MaxInt, 5, nil}, {1 << 32, 4096, nil}, {-1, 1, nil}, {-1, 0, nil}, {1 << 32, 0, nil},
		{-1, -1, nil}, {1 << 32, -1, nil}, {1 << 32, 4097, nil}, {-1, 4097, nil}, {math.MinInt, math.MinInt, nil}, {math.MaxInt, math.MaxInt, nil},
	} {
		if got := checkShuffle(t, row.seed, row.n); !slices.Equal(got, row.want) {
			t.Errorf("Shuffle of %d, %d is %v, not %v", row.seed, row.n, got, row.want)
		}
	}
	for _, row := range []struct {
		seed, sum  int
		first, end []int
	}{
		{0, 17136709550, ints(657, 3906, 2137, 977), ints(2733, 3355, 1140, 966)}, {1<<32 - 1, 17177908454, ints(4072, 2110, 1038, 1193), ints(2582, 551, 769, 965)}, {5, 17111176025, ints(2756, 3508, 3845, 552), ints(3491, 995, 2997, 974)},
	} {
		got, sum := checkShuffle(t, row.seed, 4096), 0
		for at, x := range got {
			sum += at * x
		}
		if sum != row.sum || !slices.Equal(got[:4], row.first) || !slices.Equal(got[4092:], row.end) {
			t.Errorf("Shuffle of %d, 4096 is %v .. %v, with a sum of %d", row.seed, got[:4], got[4092:], sum)
		}
	}
}

func TestShuffleIsAPermutation(t *testing.T) {
	source := rand.New(rand.NewSource(262))
	for _, seed := range stateInts(source, 40) {
		for _, n := range append(around(0, testItems), 2, 3, 7, 64, source.Intn(300)) {
			if n < testItems-1 || source.Intn(20) == 0 {
				checkShuffle(t, seed, n)
			}
		}
	}
	for n := range 260 {
		checkShuffle(t, source.Intn(1<<32), n)
	}
	for _, n := range ints(4094, 4095, 4096, 4097) {
		for _, seed := range ints(0, 1, testState-1, testState, testState+1, -1) {
			checkShuffle(t, seed, n)
		}
	}
	// Each order of three comes by some seed.
	orders := map[string]int{}
	for range 1000 {
		orders[fmt.Sprint(checkShuffle(t, source.Intn(1<<32), 3))]++
	}
	if len(orders) != 6 {
		t.Errorf("the orders of three are %v", orders)
	}
}

func feedOf(items int, batch int, seed int, epoch int, at int, workers int) impl.Feed {
	return impl.Feed{Items: items, Batch: batch, Seed: seed, Epoch: epoch, At: at, Workers: workers}
}

// wantFeedOk says what the document says of FeedOk.
func wantFeedOk(f impl.Feed) bool {
	if !allIn(1, testItems, f.Items) || !allIn(1, f.Items, f.Batch) || !allIn(1, testWorkers, f.Workers) {
		return false
	}
	if !allIn(0, testState, f.Seed) || !allIn(0, testEpochs, f.Epoch) {
		return false
	}
	for at := 0; at <= f.Items-f.Batch; at += f.Batch {
		if at == f.At {
			return true
		}
	}
	return false
}

func checkFeedOk(t *testing.T, f impl.Feed) bool {
	t.Helper()
	got := impl.FeedOk(f)
	if got != wantFeedOk(f) {
		t.Fatalf("FeedOk of %+v is %v", f, got)
	}
	return got
}

// rightFeeds have each number at its least, at its greatest and between.
func rightFeeds() []impl.Feed {
	return []impl.Feed{
		feedOf(1, 1, 0, 0, 0, 1), feedOf(5, 2, 9, 0, 0, 2), feedOf(5, 2, 9, 0, 2, 2), feedOf(6, 2, 9, 3, 4, 1), feedOf(10, 5, testState, 0, 0, 3), feedOf(10, 5, testState, 1, 5, 3),
		feedOf(4096, 4096, testState, testEpochs, 0, 64), feedOf(4096, 1, 0, 0, 4095, 64), feedOf(4096, 1, 0, testEpochs, 4094, 1), feedOf(4096, 64, 7, 5, 4032, 63), feedOf(4096, 4095, 7, 5, 0, 3), feedOf(4096, 2048, 1, 2, 2048, 7), feedOf(4096, 2047, 1, 2, 2047, 7), feedOf(4095, 2048, 1, 2, 0, 7),
		feedOf(7, 7, 1<<31, 12, 0, 7), feedOf(7, 6, 1<<31, 12, 0, 64), feedOf(7, 3, 5, 999999, 3, 4), feedOf(7, 3, 5, testEpochs, 0, 4), feedOf(7, 1, 5, 44, 6, 1), feedOf(64, 64, 5, 44, 0, 64), feedOf(65, 64, 5, 44, 0, 64),
	}
}

// wrongFeeds have one number, or several, that are not as they should be.
func wrongFeeds() []impl.Feed {
	return []impl.Feed{
		{}, feedOf(0, 2, 9, 0, 2, 2), feedOf(0, 0, 9, 0, 0, 2), feedOf(0, 1, 9, 0, 0, 2), feedOf(-1, 2, 9, 0, 2, 2), feedOf(-5, -2, 9, 0, 2, 2), feedOf(4097, 2, 9, 0, 2, 2), feedOf(4097, 4097, 9, 0, 0, 2), feedOf(math.MaxInt, 2, 9, 0, 2, 2), feedOf(math.MinInt, 2, 9, 0, 2, 2),
		feedOf(5, 0, 9, 0, 0, 2), feedOf(5, 0, 9, 0, 2, 2), feedOf(5, -1, 9, 0, 0, 2), feedOf(5, -2, 9, 0, 2, 2), feedOf(5, 6, 9, 0, 0, 2), feedOf(5, 6, 9, 0, -1, 2), feedOf(1, 2, 9, 0, 0, 2), feedOf(4096, 4097, 9, 0, 0, 2), feedOf(5, math.MaxInt, 9, 0, 0, 2), feedOf(5, math.MinInt, 9, 0, 0, 2), feedOf(math.MaxInt, math.MaxInt, 9, 0, 0, 2),
		feedOf(5, 2, -1, 0, 2, 2), feedOf(5, 2, 1<<32, 0, 2, 2), feedOf(5, 2, math.MinInt, 0, 2, 2), feedOf(5, 2, math.MaxInt, 0, 2, 2),
		feedOf(5, 2, 9, -1, 2, 2), feedOf(5, 2, 9, testEpochs+1, 2, 2), feedOf(5, 2, 9, testEpochs+1, 0, 2), feedOf(5, 2, 9, math.MinInt, 2, 2), feedOf(5, 2, 9, math.MaxInt, 2, 2),
		feedOf(5, 2, 9, 0, -1, 2), feedOf(5, 2, 9, 0, -2, 2), feedOf(5, 2, 9, 0, 1, 2), feedOf(5, 2, 9, 0, 3, 2), feedOf(5, 2, 9, 0, 4, 2), feedOf(5, 2, 9, 0, 5, 2), feedOf(6, 2, 9, 0, 5, 2), feedOf(6, 2, 9, 0, 6, 2), feedOf(5, 5, 9, 0, 5, 2), feedOf(5, 1, 9, 0, 5, 2), feedOf(5, 2, 9, 0, math.MinInt, 2), feedOf(5, 2, 9, 0, math.MaxInt-1, 2), feedOf(4096, 64, 9, 0, 4096, 2), feedOf(4096, 64, 9, 0, 4033, 2),
		feedOf(5, 2, 9, 0, 2, 0), feedOf(5, 2, 9, 0, 2, -1), feedOf(5, 2, 9, 0, 2, 65), feedOf(5, 2, 9, 0, 2, math.MinInt), feedOf(5, 2, 9, 0, 2, math.MaxInt),
		feedOf(-1, -1, -1, -1, -1, -1), feedOf(math.MinInt, math.MinInt, math.MinInt, math.MinInt, math.MinInt, math.MinInt), feedOf(math.MaxInt, math.MaxInt, math.MaxInt, math.MaxInt, math.MaxInt, math.MaxInt),
	}
}

func TestFeedOkRows(t *testing.T) {
	for _, f := range rightFeeds() {
		if !checkFeedOk(t, f) {
			t.Errorf("%+v is not FeedOk", f)
		}
	}
	for _, f := range wrongFeeds() {
		if checkFeedOk(t, f) {
			t.Errorf("%+v is FeedOk", f)
		}
	}
}

func TestFeedOkAgainstWords(t *testing.T) {
	right := 0
	for _, items := range append(around(1, testItems), 5) {
		batches := append(around(1, testItems), 0, -1, 2, 4, 5, 6)
		for _, batch := range batches {
			places := ints(math.MinInt, -1, 0, 1, batch-1, batch, batch+1, 2*batch, items-1, items, math.MaxInt)
			if allIn(1, items, batch) && allIn(1, testItems, items) {
				last := (items - batch) / batch * batch
				places = append(places, items-batch, items-batch+1, items-batch-1, last, last+batch, last-1, last+1, -batch)
			}
			for _, at := range places {
				for _, seed := range around(0, testState) {
					if checkFeedOk(t, feedOf(items, batch, seed, 3, at, 2)) {
						right++
					}
				}
				for _, epoch := range around(0, testEpochs) {
					checkFeedOk(t, feedOf(items, batch, 9, epoch, at, 2))
				}
				for _, workers := range around(1, testWorkers) {
					checkFeedOk(t, feedOf(items, batch, 9, 3, at, workers))
				}
			}
		}
	}
	if right < 400 {
		t.Errorf("%d are FeedOk", right)
	}
	for items := range 20 {
		for batch := range 22 {
			for at := -3; at < 24; at++ {
				checkFeedOk(t, feedOf(items, batch, 9, 3, at, 2))
			}
		}
	}
}

func isNoFeed(f impl.Feed) bool { return f == impl.Feed{} }

// wantBehind is the Feed behind a batch, and whether there is one.
func wantBehind(f impl.Feed) (impl.Feed, bool) {
	if !wantFeedOk(f) {
		return impl.Feed{}, false
	}
	f.At += f.Batch
	if f.Items-f.At < f.Batch {
		f.Epoch, f.At = f.Epoch+1, 0
	}
	if f.Epoch > testEpochs {
		return impl.Feed{}, false
	}
	return f, true
}

// wantBatch are the examples of the batch of an f that is FeedOk, in order.
func wantBatch(f impl.Feed) []int {
	return wantShuffle(int(new(big.Int).Mod(wide(f.Seed+f.Epoch), wide(1<<32)).Int64()), f.Items)[f.At : f.At+f.Batch]
}

// wantNextBatch says what the document says of NextBatch.
func wantNextBatch(f impl.Feed) ([][]int, impl.Feed, bool) {
	behind, ok := wantBehind(f)
	if !ok {
		return [][]int{}, impl.Feed{}, false
	}
	parts, batch := [][]int{}, wantBatch(f)
	for worker := range f.Workers {
		part := []int{}
		for number := worker; number < len(batch); number += f.Workers {
			part = append(part, batch[number])
		}
		parts = append(parts, part)
	}
	return parts, behind, true
}

func checkNextBatch(t *testing.T, f impl.Feed) ([][]int, impl.Feed, bool) {
	t.Helper()
	parts, behind, ok := impl.NextBatch(f)
	wantParts, wantFeed, wantOk := wantNextBatch(f)
	if !sameLists(parts, wantParts) || behind != wantFeed || ok != wantOk {
		t.Fatalf("NextBatch of %+v is %.300s, %+v, %v, not %.300s, %+v, %v", f, fmt.Sprint(parts), behind, ok, fmt.Sprint(wantParts), wantFeed, wantOk)
	}
	if ok && !impl.FeedOk(behind) {
		t.Fatalf("NextBatch of %+v gives %+v, which is not FeedOk", f, behind)
	}
	return parts, behind, ok
}

func TestNextBatchRows(t *testing.T) {
	for _, row := range []struct {
		f, behind impl.Feed
		parts     [][]int
	}{
		// One worker, two, as many as Batch, more than Batch.
		{feedOf(5, 2, 9, 0, 0, 1), feedOf(5, 2, 9, 0, 2, 1), rowsOf(ints(4, 3))}, {feedOf(5, 2, 9, 0, 0, 2), feedOf(5, 2, 9, 0, 2, 2), rowsOf(ints(4), ints(3))}, {feedOf(5, 2, 9, 0, 0, 4), feedOf(5, 2, 9, 0, 2, 4), rowsOf(ints(4), ints(3), nil, nil)},
		// What is left of an epoch is passed over, and the next has another order.
		{feedOf(5, 2, 9, 0, 2, 2), feedOf(5, 2, 9, 1, 0, 2), rowsOf(ints(2), ints(0))}, {feedOf(5, 2, 9, 1, 0, 2), feedOf(5, 2, 9, 1, 2, 2), rowsOf(ints(2), ints(3))}, {feedOf(5, 2, 9, 1, 2, 2), feedOf(5, 2, 9, 2, 0, 2), rowsOf(ints(4), ints(0))}, {feedOf(5, 2, 9, 2, 0, 2), feedOf(5, 2, 9, 2, 2, 2), rowsOf(ints(2), ints(0))},
		{feedOf(5, 3, 9, 0, 0, 2), feedOf(5, 3, 9, 1, 0, 2), rowsOf(ints(4, 2), ints(3))}, {feedOf(5, 4, 9, 0, 0, 3), feedOf(5, 4, 9, 1, 0, 3), rowsOf(ints(4, 0), ints(3), ints(2))}, {feedOf(5, 5, 9, 0, 0, 2), feedOf(5, 5, 9, 1, 0, 2), rowsOf(ints(4, 2, 1), ints(3, 0))}, {feedOf(5, 1, 9, 0, 3, 1), feedOf(5, 1, 9, 0, 4, 1), rowsOf(ints(0))}, {feedOf(5, 1, 9, 0, 4, 1), feedOf(5, 1, 9, 1, 0, 1), rowsOf(ints(1))},
		// Nothing is left.
		{feedOf(10, 5, 1, 0, 0, 3), feedOf(10, 5, 1, 0, 5, 3), rowsOf(ints(9, 8), ints(5, 1), ints(6))}, {feedOf(10, 5, 1, 0, 5, 3), feedOf(10, 5, 1, 1, 0, 3), rowsOf(ints(0, 3), ints(7, 2), ints(4))},
		// Seed + Epoch just below 2^32, and just at it.
		{feedOf(10, 5, 1<<32-2, 0, 0, 1), feedOf(10, 5, 1<<32-2, 0, 5, 1), rowsOf(ints(7, 6, 9, 1, 5))}, {feedOf(10, 5, 1<<32-2, 1, 0, 1), feedOf(10, 5, 1<<32-2, 1, 5, 1), rowsOf(ints(0, 7, 9, 3, 5))}, {feedOf(10, 5, 1<<32-2, 2, 0, 1), feedOf(10, 5, 1<<32-2, 2, 5, 1), rowsOf(ints(0, 5, 7, 1, 3))}, {feedOf(10, 5, 1<<32-1, 0, 5, 1), feedOf(10, 5, 1<<32-1, 1, 0, 1), rowsOf(ints(6, 4, 8, 1, 2))}, {feedOf(10, 5, 1<<32-1, 1, 5, 1), feedOf(10, 5, 1<<32-1, 2, 0, 1), rowsOf(ints(8, 4, 6, 9, 2))}, {feedOf(10, 5, 1<<32-1, 2, 0, 1), feedOf(10, 5, 1<<32-1, 2, 5, 1), rowsOf(ints(9, 5, 6, 8, 1))},
		{feedOf(10, 5, 1<<32-1000000, 999999, 0, 1), feedOf(10, 5, 1<<32-1000000, 999999, 5, 1), rowsOf(ints(0, 7, 9, 3, 5))}, {feedOf(10, 5, 1<<32-1000000, 1000000, 0, 1), feedOf(10, 5, 1<<32-1000000, 1000000, 5, 1), rowsOf(ints(0, 5, 7, 1, 3))}, {feedOf(10, 5, 1<<32-1000000, 999999, 5, 1), feedOf(10, 5, 1<<32-1000000, 1000000, 0, 1), rowsOf(ints(6, 4, 8, 1, 2))},
		// One item.
		{feedOf(1, 1, 77, 0, 0, 1), feedOf(1, 1, 77, 1, 0, 1), rowsOf(ints(0))}, {feedOf(1, 1, 77, 999999, 0, 2), feedOf(1, 1, 77, 1000000, 0, 2), rowsOf(ints(0), nil)},
	} {
		if parts, behind, ok := checkNextBatch(t, row.f); !ok || behind != row.behind || !sameLists(parts, row.parts) {
			t.Errorf("NextBatch of %+v is %v, %+v, %v", row.f, parts, behind, ok)
		}
	}
}

func TestNextBatchOfWhatIsNotSo(t *testing.T) {
	// Behind the last batch of the last epoch there is no Feed.
	ended := []impl.Feed{feedOf(1, 1, 0, testEpochs, 0, 1), feedOf(5, 2, 9, testEpochs, 2, 2), feedOf(6, 2, 9, testEpochs, 4, 2), feedOf(4096, 4096, testState, testEpochs, 0, 64), feedOf(4096, 1, 0, testEpochs, 4095, 64), feedOf(4096, 4095, 0, testEpochs, 0, 1)}
	for _, f := range append(ended, wrongFeeds()...) {
		if parts, behind, ok := checkNextBatch(t, f); ok || len(parts) != 0 || !isNoFeed(behind) {
			t.Errorf("NextBatch of %+v is %v, %+v, %v", f, parts, behind, ok)
		}
	}
}

// someWorkers are numbers of workers, fewer than a batch has examples, as many
// and more.
func someWorkers(source *rand.Rand, batch int) []int {
	return ints(1, 2, 3, 7, testWorkers-1, testWorkers, clampedTo(batch-1), clampedTo(batch), clampedTo(batch+1), 1+source.Intn(testWorkers))
}

func clampedTo(workers int) int { return max(1, min(workers, testWorkers)) }

func randomFeed(source *rand.Rand, most int) impl.Feed {
	items := 1 + source.Intn(most)
	batch := 1 + source.Intn(items)>>source.Intn(8)
	workers := someWorkers(source, batch)
	f := feedOf(items, batch, source.Intn(1<<32)>>source.Intn(33), source.Intn(testEpochs+1)>>source.Intn(20), source.Intn(items/batch)*batch, workers[source.Intn(len(workers))])
	switch source.Intn(8) {
	case 0:
		f.At = (items - batch) / batch * batch
	case 1:
		f.Seed = 1<<32 - 1 - source.Intn(5)
		f.Epoch = source.Intn(8)
	case 2:
		f.Epoch = testEpochs - source.Intn(3)
	case 3:
		f.Epoch = source.Intn(3)
	}
	return f
}

func TestNextBatchAgainstWords(t *testing.T) {
	source := rand.New(rand.NewSource(263))
	ended := 0
	for range 3000 {
		f := randomFeed(source, 40)
		for _, workers := range someWorkers(source, f.Batch) {
			f.Workers = workers
			if _, _, ok := checkNextBatch(t, f); !ok {
				ended++
			}
		}
	}
	if ended < 100 {
		t.Errorf("%d were the last", ended)
	}
	for range 60 {
		checkNextBatch(t, randomFeed(source, testItems))
	}
	for _, f := range rightFeeds() {
		for _, workers := range someWorkers(source, f.Batch) {
			f.Workers = workers
			checkNextBatch(t, f)
		}
	}
}

// wantSkip goes from epoch to epoch. It is the document's Skip where n can be
// gone through at all.
func wantSkip(f impl.Feed, n int) (impl.Feed, bool) {
	if !wantFeedOk(f) || n < 0 || n > testSkips {
		return impl.Feed{}, false
	}
	left := (f.Items - f.At) / f.Batch
	for n >= left {
		n -= left
		f.Epoch, f.At, left = f.Epoch+1, 0, f.Items/f.Batch
		if f.Epoch > testEpochs {
			return impl.Feed{}, false
		}
	}
	f.At += n * f.Batch
	return f, true
}

func checkSkip(t *testing.T, f impl.Feed, n int) (impl.Feed, bool) {
	t.Helper()
	got, ok := impl.Skip(f, n)
	if want, wantOk := wantSkip(f, n); got != want || ok != wantOk {
		t.Fatalf("Skip of %+v, %d is %+v, %v, not %+v, %v", f, n, got, ok, want, wantOk)
	}
	if ok && !impl.FeedOk(got) {
		t.Fatalf("Skip of %+v, %d is %+v, which is not FeedOk", f, n, got)
	}
	return got, ok
}

func TestSkipRows(t *testing.T) {
	for _, row := range []struct {
		f         impl.Feed
		n         int
		epoch, at int
	}{
		{feedOf(5, 2, 9, 0, 0, 2), 0, 0, 0}, {feedOf(5, 2, 9, 0, 0, 2), 1, 0, 2}, {feedOf(5, 2, 9, 0, 0, 2), 2, 1, 0}, {feedOf(5, 2, 9, 0, 0, 2), 3, 1, 2}, {feedOf(5, 2, 9, 0, 0, 2), 4, 2, 0}, {feedOf(5, 2, 9, 0, 0, 2), 5, 2, 2},
		{feedOf(5, 2, 9, 7, 2, 2), 0, 7, 2}, {feedOf(5, 2, 9, 7, 2, 2), 1, 8, 0}, {feedOf(5, 2, 9, 7, 2, 2), 2, 8, 2}, {feedOf(5, 2, 9, 7, 2, 2), 3, 9, 0}, {feedOf(5, 2, 9, 7, 2, 2), 1000001, 500008, 0},
		{feedOf(5, 3, 9, 0, 0, 2), 1, 1, 0}, {feedOf(5, 5, 9, 0, 0, 2), 7, 7, 0}, {feedOf(5, 1, 9, 0, 4, 2), 0, 0, 4}, {feedOf(5, 1, 9, 0, 4, 2), 1, 1, 0}, {feedOf(6, 2, 9, 0, 2, 2), 1, 0, 4}, {feedOf(6, 2, 9, 0, 2, 2), 2, 1, 0}, {feedOf(6, 2, 9, 0, 2, 2), 4, 1, 4}, {feedOf(6, 2, 9, 0, 2, 2), 5, 2, 0},
		// Up to the last batch of an epoch, and just over it.
		{feedOf(4096, 1, 0, 0, 0, 64), 4095, 0, 4095}, {feedOf(4096, 1, 0, 0, 0, 64), 4096, 1, 0}, {feedOf(4096, 64, 0, 5, 64, 64), 62, 5, 4032}, {feedOf(4096, 64, 0, 5, 64, 64), 63, 6, 0}, {feedOf(4096, 63, 0, 5, 63, 64), 63, 5, 4032}, {feedOf(4096, 63, 0, 5, 63, 64), 64, 6, 0},
		// Up to the last batch of the last epoch.
		{feedOf(1, 1, 0, 0, 0, 1), 1000000, 1000000, 0}, {feedOf(5, 2, 9, 0, 0, 2), 2000001, 1000000, 2}, {feedOf(5, 2, 9, 0, 2, 2), 2000000, 1000000, 2}, {feedOf(5, 2, 9, 1000000, 0, 2), 1, 1000000, 2}, {feedOf(5, 2, 9, 1000000, 2, 2), 0, 1000000, 2}, {feedOf(4096, 1, 0, 0, 0, 64), 4096004095, 1000000, 4095}, {feedOf(4096, 4096, 0, 999999, 0, 64), 1, 1000000, 0}, {feedOf(4096, 3, 0, 0, 0, 64), 1365001364, 1000000, 4092},
	} {
		want := row.f
		want.Epoch, want.At = row.epoch, row.at
		if got, ok := checkSkip(t, row.f, row.n); !ok || got != want {
			t.Errorf("Skip of %+v, %d is %+v, %v", row.f, row.n, got, ok)
		}
	}
}

func TestSkipOfWhatIsNotSo(t *testing.T) {
	for _, row := range []struct {
		f impl.Feed
		n int
	}{
		{feedOf(5, 2, 9, 0, 0, 2), -1}, {feedOf(5, 2, 9, 0, 2, 2), -1}, {feedOf(5, 2, 9, 3, 2, 2), -2}, {feedOf(5, 2, 9, 3, 2, 2), math.MinInt}, {feedOf(5, 2, 9, 3, 2, 2), math.MaxInt}, {feedOf(5, 2, 9, 3, 2, 2), testSkips}, {feedOf(5, 2, 9, 3, 2, 2), testSkips + 1}, {feedOf(5, 2, 9, 3, 2, 2), testSkips - 1}, {feedOf(4096, 1, 9, 3, 0, 2), testSkips}, {feedOf(4096, 1, 9, 3, 0, 2), testSkips + 1}, {feedOf(4096, 1, 9, 3, 0, 2), 1 << 62},
		// One over the last batch of the last epoch.
		{feedOf(1, 1, 0, 0, 0, 1), 1000001}, {feedOf(5, 2, 9, 0, 0, 2), 2000002}, {feedOf(5, 2, 9, 0, 2, 2), 2000001}, {feedOf(5, 2, 9, 1000000, 0, 2), 2}, {feedOf(5, 2, 9, 1000000, 2, 2), 1}, {feedOf(4096, 1, 0, 0, 0, 64), 4096004096}, {feedOf(4096, 4096, 0, 999999, 0, 64), 2}, {feedOf(4096, 3, 0, 0, 0, 64), 1365001365},
	} {
		if got, ok := checkSkip(t, row.f, row.n); ok || !isNoFeed(got) {
			t.Errorf("Skip of %+v, %d is %+v, %v", row.f, row.n, got, ok)
		}
	}
	for _, f := range wrongFeeds() {
		for _, n := range append(around(0, testSkips), 2, 7, 4096) {
			if got, ok := checkSkip(t, f, n); ok || !isNoFeed(got) {
				t.Errorf("Skip of %+v, %d is %+v, %v", f, n, got, ok)
			}
		}
	}
}

func TestSkipAgainstWords(t *testing.T) {
	source := rand.New(rand.NewSource(264))
	for _, f := range rightFeeds() {
		for _, n := range append(around(0, testSkips), 2, 5, 64, 4095, 4096, 4097, 1000000, 4096004095) {
			checkSkip(t, f, n)
		}
	}
	for range 100 {
		f := randomFeed(source, testItems)
		ofEpoch := f.Items / f.Batch
		left := (testEpochs-f.Epoch+1)*ofEpoch - f.At/f.Batch
		for _, n := range ints(0, 1, ofEpoch-1, ofEpoch, ofEpoch+1, left-1, left, left+1, source.Intn(left), source.Intn(2*left)) {
			if _, ok := checkSkip(t, f, n); ok != (n < left) {
				t.Errorf("Skip of %+v, %d is %v; %d were left", f, n, ok, left)
			}
		}
	}
}

// P42: Skip of n is NextBatch n times, at each n on the way, and from each Feed
// on the way to the end.
func TestSkipIsGoingThrough(t *testing.T) {
	source := rand.New(rand.NewSource(265))
	ended := 0
	for range 700 {
		f := randomFeed(source, 30)
		way := []impl.Feed{f}
		for len(way) < 60 {
			_, behind, ok := impl.NextBatch(way[len(way)-1])
			if !ok {
				ended++
				if got, ok := checkSkip(t, f, len(way)); ok {
					t.Fatalf("Skip of %+v, %d is %+v", f, len(way), got)
				}
				break
			}
			way = append(way, behind)
		}
		for n, behind := range way {
			if got, ok := checkSkip(t, f, n); !ok || got != behind {
				t.Fatalf("Skip of %+v, %d is %+v, %v, gone through it is %+v", f, n, got, ok, behind)
			}
			if got, ok := checkSkip(t, behind, len(way)-1-n); !ok || got != way[len(way)-1] {
				t.Fatalf("Skip of %+v, %d is %+v, %v, gone through it is %+v", behind, len(way)-1-n, got, ok, way[len(way)-1])
			}
		}
	}
	if ended < 50 {
		t.Errorf("%d came to the end", ended)
	}
	// A longer way.
	f, behind := feedOf(7, 2, testState-100, 0, 0, 3), feedOf(7, 2, testState-100, 0, 0, 3)
	for n := range 3000 {
		if got, ok := impl.Skip(f, n); !ok || got != behind {
			t.Fatalf("Skip of %+v, %d is %+v, %v, gone through it is %+v", f, n, got, ok, behind)
		}
		_, behind, _ = impl.NextBatch(behind)
	}
}

// checkResize holds Resize to the words.
func checkResize(t *testing.T, f impl.Feed, workers int) (impl.Feed, bool) {
	t.Helper()
	got, ok := impl.Resize(f, workers)
	want, right := f, wantFeedOk(f) && workers >= 1 && workers <= testWorkers
	if want.Workers = workers; !right {
		want = impl.Feed{}
	}
	if got != want || ok != right {
		t.Fatalf("Resize of %+v to %d is %+v, %v", f, workers, got, ok)
	}
	return got, ok
}

func TestResize(t *testing.T) {
	for _, f := range rightFeeds() {
		for _, workers := range append(around(1, testWorkers), -1, 3, 7, f.Batch, f.Workers) {
			checkResize(t, f, workers)
		}
	}
	for _, f := range wrongFeeds() {
		for _, workers := range append(around(1, testWorkers), -1, 3, 7) {
			if got, ok := checkResize(t, f, workers); ok || !isNoFeed(got) {
				t.Errorf("Resize of %+v to %d is %+v, %v", f, workers, got, ok)
			}
		}
	}
	f := feedOf(5, 2, 9, 3, 2, 2)
	for _, row := range []struct {
		from, to int
		ok       bool
	}{
		{2, 1, true}, {2, 2, true}, {2, 64, true}, {64, 1, true}, {1, 64, true}, {2, 65, false}, {2, 0, false}, {2, -1, false}, {2, math.MinInt, false}, {2, math.MaxInt, false},
		// What was wrong in Workers alone is not mended.
		{0, 2, false}, {65, 2, false}, {-1, 64, false}, {math.MinInt, 1, false}, {math.MaxInt, 1, false}, {0, 0, false}, {65, 65, false},
	} {
		f.Workers = row.from
		if got, ok := checkResize(t, f, row.to); ok != row.ok || ok && got != feedOf(5, 2, 9, 3, 2, row.to) {
			t.Errorf("Resize of %+v to %d is %+v, %v", f, row.to, got, ok)
		}
	}
}

// wantRound lays each worker's examples where they belong: none is beyond all
// of them where each worker has just its share.
func wantRound(parts [][]int) []int {
	count := 0
	for _, part := range parts {
		count += len(part)
	}
	if len(parts) < 1 || len(parts) > testWorkers || count > testItems {
		return []int{}
	}
	batch := noughts(count)
	for worker, part := range parts {
		for number, example := range part {
			place := number*len(parts) + worker
			if place >= count {
				return []int{}
			}
			batch[place] = example
		}
	}
	return batch
}

func checkRound(t *testing.T, parts [][]int) []int {
	t.Helper()
	got := impl.Round(parts)
	if want := wantRound(parts); !slices.Equal(got, want) {
		t.Fatalf("Round of %.300s is %.300s, not %.300s", fmt.Sprint(parts), fmt.Sprint(got), fmt.Sprint(want))
	}
	return got
}

// dealt gives the numbers of a list to workers, one after the other.
func dealt(list []int, workers int) [][]int {
	parts := make([][]int, workers)
	for len(list) > 0 {
		for worker := range min(workers, len(list)) {
			parts[worker] = append(parts[worker], list[worker])
		}
		list = list[min(workers, len(list)):]
	}
	return parts
}

func TestRoundRows(t *testing.T) {
	for _, row := range []struct {
		parts [][]int
		want  []int
	}{
		{nil, nil}, {rowsOf(), nil}, {rowsOf(nil), nil}, {rowsOf(nil, nil, nil), nil}, {manyRows(64), nil}, {manyRows(65), nil},
		{rowsOf(ints(7)), ints(7)}, {rowsOf(ints(4, 3, 2)), ints(4, 3, 2)}, {rowsOf(ints(4, 2), ints(3)), ints(4, 3, 2)}, {rowsOf(ints(4, 2), ints(3, 0)), ints(4, 3, 2, 0)}, {rowsOf(ints(4), ints(3), ints(2)), ints(4, 3, 2)}, {rowsOf(ints(4, 0), ints(3, 1), ints(2)), ints(4, 3, 2, 0, 1)},
		// Some have nothing.
		{rowsOf(ints(4), nil), ints(4)}, {rowsOf(ints(4), ints(3), nil, nil), ints(4, 3)}, {rowsOf(ints(4), ints(3), ints()), ints(4, 3)}, {rowsOf(nil, ints(4)), nil}, {rowsOf(ints(4), nil, ints(3)), nil}, {rowsOf(nil, nil, ints(3)), nil},
		// The first, the last, one between has one too many.
		{rowsOf(ints(4, 2, 1), ints(3)), nil}, {rowsOf(ints(4, 2, 1), ints(3, 0), ints(5)), nil}, {rowsOf(ints(4), ints(3, 2)), nil}, {rowsOf(ints(4, 2), ints(3, 0, 1)), nil}, {rowsOf(ints(4), ints(3, 1), ints(2)), nil}, {rowsOf(ints(4), ints(3), ints(2, 1)), nil}, {rowsOf(ints(4, 5), nil), nil}, {rowsOf(ints(4, 5), ints(3), nil), nil},
		// The first, the last, one between has one too few.
		{rowsOf(ints(4), ints(3, 0), ints(2, 1)), nil}, {rowsOf(ints(4, 0), ints(3), ints(2, 1)), nil}, {rowsOf(ints(4, 5, 0), ints(3, 1, 7), ints(2)), nil}, {rowsOf(nil, ints(3), ints(2)), nil}, {rowsOf(ints(4, 0, 1), ints(3, 2), ints(5)), nil},
		// Any ints, and the same more than once.
		{rowsOf(ints(math.MinInt, -1), ints(math.MaxInt, 5000)), ints(math.MinInt, math.MaxInt, -1, 5000)}, {rowsOf(ints(6, 6), ints(6)), ints(6, 6, 6)}, {rowsOf(ints(0, 0), ints(0)), ints(0, 0, 0)},
	} {
		if got := checkRound(t, row.parts); !slices.Equal(got, row.want) {
			t.Errorf("Round of %v is %v, not %v", row.parts, got, row.want)
		}
	}
}

// All parts of some few workers, as long as they may be.
func TestRoundOfAllLengths(t *testing.T) {
	right := 0
	for workers := range 6 {
		for lengths := range powerOf(5, workers) {
			parts, next := [][]int{}, 100
			for range workers {
				part := []int{}
				for range lengths % 5 {
					part = append(part, next)
					next++
				}
				parts, lengths = append(parts, part), lengths/5
			}
			if len(checkRound(t, parts)) > 0 {
				right++
			}
		}
	}
	// There is one for each sum of lengths above 0 of so many workers.
	if right != 4+8+12+16+20 {
		t.Errorf("%d could be put together", right)
	}
}

func powerOf(x int, n int) int {
	power := 1
	for range n {
		power *= x
	}
	return power
}

func TestRoundOfManyWorkers(t *testing.T) {
	source := rand.New(rand.NewSource(266))
	for _, workers := range ints(1, 2, 3, 7, 63, 64, 65, 66, 100) {
		for _, count := range ints(0, 1, 2, 62, 63, 64, 65, 127, 128, 129, 1000, 4094, 4095, 4096, 4097, 4160, 8192) {
			list := make([]int, count)
			for at := range list {
				list[at] = source.Intn(1 << 20)
			}
			want := list
			if workers > testWorkers || count > testItems {
				want = nil
			}
			parts := dealt(list, workers)
			if got := checkRound(t, parts); !slices.Equal(got, want) {
				t.Fatalf("Round of %d dealt to %d has %d", count, workers, len(got))
			}
			// One too many, one too few, one moved from one to another.
			for _, worker := range ints(0, workers-1, source.Intn(workers)) {
				checkOneOff(t, parts, worker, count)
			}
		}
	}
}

// checkOneOff makes one worker's part longer, then shorter, then the next one's
// longer for that. Longer, it can be that of the worker that would have the next
// example alone; shorter, that of the worker that has the last.
func checkOneOff(t *testing.T, parts [][]int, worker int, count int) {
	t.Helper()
	workers := len(parts)
	more, less := slices.Clone(parts), slices.Clone(parts)
	more[worker] = append(slices.Clone(parts[worker]), 5)
	if got := checkRound(t, more); len(got) > 0 && worker != count%workers {
		t.Fatalf("Round of %d dealt to %d, with one more at %d, has %d", count, workers, worker, len(got))
	}
	if len(parts[worker]) == 0 {
		return
	}
	less[worker] = parts[worker][:len(parts[worker])-1]
	if got := checkRound(t, less); len(got) > 0 && worker != (count-1)%workers {
		t.Fatalf("Round of %d dealt to %d, with one less at %d, has %d", count, workers, worker, len(got))
	}
	next := (worker + 1) % workers
	less[next] = append(slices.Clone(less[next]), 5)
	checkRound(t, less)
}

// checkRounds goes through some batches on as many workers as are told, one
// number after the other, and holds P41: they are those of one worker.
func checkRounds(t *testing.T, f impl.Feed, batches int, workers ...int) {
	t.Helper()
	alone, ok := impl.Resize(f, 1)
	if !ok {
		t.Fatalf("Resize of %+v to 1 is false", f)
	}
	for now := range batches {
		f, ok = impl.Resize(f, workers[now%len(workers)])
		parts, behind, more := impl.NextBatch(f)
		wanted, aloneBehind, moreAlone := impl.NextBatch(alone)
		if !ok || more != moreAlone {
			t.Fatalf("on %v workers batch %d of %+v is %v, on one %v", workers, now, f, more, moreAlone)
		}
		if !more {
			return
		}
		if len(parts) != f.Workers || len(wanted) != 1 || !slices.Equal(impl.Round(parts), wanted[0]) || !slices.Equal(wanted[0], wantBatch(f)) {
			t.Fatalf("on %v workers batch %d of %+v is %v, on one %v", workers, now, f, parts, wanted)
		}
		f, alone = behind, aloneBehind
	}
}

func TestOnAnyNumberOfWorkers(t *testing.T) {
	source := rand.New(rand.NewSource(267))
	for range 150 {
		f := randomFeed(source, 90)
		for _, workers := range ints(1, 2, 3, 7, 64) {
			checkRounds(t, f, 9, workers)
		}
		checkRounds(t, f, 12, 1, 2, 3, 7, 64)
		checkRounds(t, f, 12, 64, 1, 7)
		checkRounds(t, f, 12, someWorkers(source, f.Batch)...)
	}
	for workers := range testWorkers {
		checkRounds(t, feedOf(130, 64, 77, 0, 0, 5), 5, workers+1)
		checkRounds(t, feedOf(9, 4, testState-2, 0, 0, 5), 9, workers+1, 2)
	}
	for _, batch := range ints(1, 64, 1000, 2048, 4095, 4096) {
		checkRounds(t, feedOf(testItems, batch, testState, 0, 0, 1), 5, 3, 64, 7, 1, 63)
	}
}

// P42: in an epoch no example comes twice, and all come where no rest is left.
func TestNoExampleTwiceInAnEpoch(t *testing.T) {
	source := rand.New(rand.NewSource(268))
	feeds := []impl.Feed{feedOf(1, 1, 0, 0, 0, 1), feedOf(4096, 64, 5, 3, 0, 7), feedOf(4096, 63, 5, 3, 0, 64), feedOf(4096, 4096, 5, 3, 0, 64), feedOf(300, 1, testState, 1, 0, 1), feedOf(7, 4, 5, 0, 0, 2)}
	for range 300 {
		f := randomFeed(source, 120)
		f.Epoch, f.At = min(f.Epoch, testEpochs-1), 0
		feeds = append(feeds, f)
	}
	for _, f := range feeds {
		epoch, came := f.Epoch, map[int]int{}
		for f.Epoch == epoch {
			parts, behind, ok := impl.NextBatch(f)
			if !ok {
				t.Fatalf("NextBatch of %+v is false", f)
			}
			for _, example := range impl.Round(parts) {
				if came[example]++; came[example] > 1 || example < 0 || example >= f.Items {
					t.Fatalf("in epoch %d of %+v %d comes once more", epoch, f, example)
				}
			}
			f = behind
		}
		if len(came) != f.Items/f.Batch*f.Batch || f.Epoch != epoch+1 || f.At != 0 {
			t.Fatalf("in epoch %d %d examples came, and %+v is behind it", epoch, len(came), f)
		}
	}
}

// From whichever Feed on the way a run begins again, on any number of workers,
// the batches are the same.
func TestFeedBehindARestart(t *testing.T) {
	source := rand.New(rand.NewSource(269))
	for range 100 {
		f := randomFeed(source, 50)
		f.Epoch = min(f.Epoch, testEpochs-40)
		for n := range 30 {
			again, ok := impl.Skip(f, n)
			if again, ok = impl.Resize(again, 1+source.Intn(testWorkers)); !ok {
				t.Fatalf("Skip of %+v, %d, and Resize are false", f, n)
			}
			far, _ := wantSkip(f, n)
			if parts, _, ok := impl.NextBatch(again); !ok || !slices.Equal(impl.Round(parts), wantBatch(far)) {
				t.Fatalf("batch %d of %+v, begun again by %+v, is %v", n, f, again, parts)
			}
		}
	}
}

func TestDataListsAreLeftAlone(t *testing.T) {
	source := rand.New(rand.NewSource(270))
	for range 300 {
		f := randomFeed(source, 60)
		checkLeftAlone(t, "NextBatch", func() [][]int { parts, _, _ := impl.NextBatch(f); return parts })
		checkLeftAlone(t, "Shuffle", func() []int { return impl.Shuffle(f.Seed, f.Items) })
		parts := withRooms(dealt(firstNumbers(f.Items), f.Workers))
		checkLeftAlone(t, "Round", func() []int { return impl.Round(parts) }, parts)
		parts[0] = append(parts[0], 5, 6)
		checkLeftAlone(t, "Round", func() []int { return impl.Round(parts) }, parts)
	}
	// Who writes into an answer writes into no other.
	order, f := impl.Shuffle(7, 4096), feedOf(4096, 4000, 7, 0, 0, 3)
	scribble(order)
	checkShuffle(t, 7, 4096)
	parts, _, _ := impl.NextBatch(f)
	for _, part := range parts {
		scribble(part)
	}
	checkNextBatch(t, f)
	checkLeftAlone(t, "Shuffle", func() []int { return impl.Shuffle(7, 4096) })
	checkLeftAlone(t, "NextBatch", func() [][]int { parts, _, _ := impl.NextBatch(f); return parts })
	// One list may stand in several places.
	same := withRooms(ints(1, 2, 3))
	checkLeftAlone(t, "Round", func() []int { return impl.Round(rowsOf(same, same, same)) }, same)
	if got := checkRound(t, rowsOf(same, same)); !slices.Equal(got, ints(1, 1, 2, 2, 3, 3)) {
		t.Errorf("Round of one list twice is %v", got)
	}
}

func TestRoomBehindDataListsIsNotRead(t *testing.T) {
	part := ints(1, 2, 3, 4)
	if got := checkRound(t, rowsOf(part[:2], part[2:3], nil)[:2]); !slices.Equal(got, ints(1, 3, 2)) {
		t.Errorf("Round has read behind a list: %v", got)
	}
	if got := checkRound(t, rowsOf(part[:2], part[:1], part)[:2]); !slices.Equal(got, ints(1, 1, 2)) {
		t.Errorf("Round has read behind a list: %v", got)
	}
}

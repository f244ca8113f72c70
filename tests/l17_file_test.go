package tests

import (
	"encoding/binary"
	"fmt"
	"math"
	"math/rand"
	"slices"
	"strings"
	"testing"

	"loop.example/g00033/impl"
)

const (
	testFile      = 120000
	testText      = 4000
	testHead      = 13
	testLeastFile = 112
	testModulus   = 4294967291
)

func TestFileLimits(t *testing.T) {
	if impl.MaxFile != testFile || impl.MaxSource != testText {
		t.Error("the limits of chapter 17")
	}
	for code, got := range ints(impl.LoadOk, impl.LoadNone, impl.LoadForm, impl.LoadSum, impl.LoadPart, impl.LoadBad) {
		if got != code {
			t.Errorf("code %d is %d", code, got)
		}
	}
}

func savedOf(text string, o impl.Opt, f impl.Feed) impl.Saved {
	return impl.Saved{Text: text, Opt: o, Feed: f}
}

// plainSaved is one that can be, with three Params and nothing at an end.
func plainSaved() impl.Saved { return savedOf("out 1\n", plainOpt(), feedOf(5, 2, 9, 1, 2, 3)) }

func sameSaved(a impl.Saved, b impl.Saved) bool {
	return a.Text == b.Text && sameOpt(a.Opt, b.Opt) && a.Feed == b.Feed
}

func isNoSaved(s impl.Saved) bool { return sameSaved(s, impl.Saved{}) }

// wantSavedOk says what the document says of SavedOk.
func wantSavedOk(s impl.Saved) bool {
	return len(s.Text) <= testText && wantOptOk(s.Opt) && wantFeedOk(s.Feed)
}

func checkSavedOk(t *testing.T, s impl.Saved) bool {
	t.Helper()
	got := impl.SavedOk(s)
	if got != wantSavedOk(s) {
		t.Fatalf("SavedOk of %.300s is %v", fmt.Sprint(s), got)
	}
	return got
}

// allBytes has each byte that there is.
func allBytes() string {
	made := make([]byte, 256)
	for at := range made {
		made[at] = byte(at)
	}
	return string(made)
}

type textRow struct {
	text string
	ok   bool
}

// textRows are of bytes of any kind, with lengths at both ends.
func textRows() []textRow {
	return []textRow{
		{"", true}, {"\x00", true}, {"\xff", true}, {"\x00\xff\x00", true}, {"\n", true}, {"LW1\n", true}, {allBytes(), true}, {strings.Repeat(allBytes(), 15), true}, {"\xff\xfe\xed\xa0\x80", true},
		{strings.Repeat("x", 3999), true}, {strings.Repeat("x", 4000), true}, {strings.Repeat("x", 4001), false}, {strings.Repeat("\x00", 4000), true}, {strings.Repeat("\x00", 4001), false}, {strings.Repeat("\xff", 4000), true}, {strings.Repeat("\xff", 4001), false},
		// Fewer runes than bytes.
		{strings.Repeat("ä", 2000), true}, {strings.Repeat("ä", 2001), false}, {strings.Repeat("x", 8000), false}, {strings.Repeat("x", 200000), false},
	}
}

func TestSavedOkOfEachPart(t *testing.T) {
	for _, row := range textRows() {
		s := plainSaved()
		s.Text = row.text
		if checkSavedOk(t, s) != row.ok {
			t.Errorf("SavedOk with %d bytes of Text is not %v", len(row.text), row.ok)
		}
	}
	for number, row := range optChanges() {
		s := plainSaved()
		row.change(&s.Opt)
		if checkSavedOk(t, s) != row.ok {
			t.Errorf("SavedOk with an Opt of change %d, %v, is not %v", number, s.Opt, row.ok)
		}
	}
	for _, f := range rightFeeds() {
		if !checkSavedOk(t, savedOf("out 1", plainOpt(), f)) {
			t.Errorf("SavedOk with %+v is false", f)
		}
	}
	for _, f := range wrongFeeds() {
		if checkSavedOk(t, savedOf("out 1", plainOpt(), f)) {
			t.Errorf("SavedOk with %+v is true", f)
		}
	}
	for _, count := range ints(0, 1, 4095, 4096, 4097) {
		if checkSavedOk(t, savedOf("", manyParams(count), feedOf(1, 1, 0, 0, 0, 1))) != (count <= 4096) {
			t.Errorf("SavedOk with %d Params", count)
		}
	}
	if checkSavedOk(t, impl.Saved{}) || checkSavedOk(t, savedOf("", impl.Opt{}, feedOf(1, 1, 0, 0, 0, 1))) || checkSavedOk(t, savedOf("", optOf(), impl.Feed{})) {
		t.Error("SavedOk of the zero value")
	}
}

// endsOpt has each number at its ends.
func endsOpt() impl.Opt {
	return impl.Opt{
		Params: ints(testParam, -testParam, -1, 0, 1, 255, 256, -256, -257),
		First:  ints(-testFirst, testFirst, 0, -1, 1, 65535, 65536, -65536, -65537),
		Second: ints(0, testSecond, testSecond-1, 1, 255, 256, 1<<32-1, 1<<32, 128),
		Count:  testSteps, Factor: testFactor, Good: testSteps,
	}
}

// rightSaved can all be saved.
func rightSaved() []impl.Saved {
	made := []impl.Saved{plainSaved()}
	for _, row := range textRows() {
		if row.ok {
			s := plainSaved()
			s.Text = row.text
			made = append(made, s)
		}
	}
	for _, f := range rightFeeds() {
		made = append(made, savedOf("in x [2]\n", plainOpt(), f))
	}
	for _, count := range ints(0, 1, 2, 4, 62, 63, 64, 65, 127, 128, 129, 1000) {
		o := manyParams(count)
		for at := range count {
			o.Params[at], o.First[at], o.Second[at] = 1000*at-7, -at, at*at
		}
		made = append(made, savedOf("out 1", o, feedOf(5, 2, 9, 1, 2, 3)))
	}
	return append(made,
		savedOf("", impl.Opt{Factor: 1}, feedOf(1, 1, 0, 0, 0, 1)), savedOf("", impl.Opt{Params: ints(), First: ints(), Second: ints(), Factor: 1}, feedOf(1, 1, 0, 0, 0, 1)),
		savedOf("a", endsOpt(), feedOf(4096, 64, testState, testEpochs, 4032, 64)), savedOf(strings.Repeat("\xff", 4000), endsOpt(), feedOf(4096, 1, 0, 0, 4095, 64)),
	)
}

// wrongSaved have one thing each that is not as it should be.
func wrongSaved() []impl.Saved {
	made := []impl.Saved{{}, savedOf("", impl.Opt{}, feedOf(1, 1, 0, 0, 0, 1)), savedOf("", manyParams(4097), feedOf(1, 1, 0, 0, 0, 1))}
	for _, row := range textRows() {
		if !row.ok {
			s := plainSaved()
			s.Text = row.text
			made = append(made, s)
		}
	}
	for _, row := range optChanges() {
		if !row.ok {
			s := plainSaved()
			row.change(&s.Opt)
			made = append(made, s)
		}
	}
	for _, f := range wrongFeeds() {
		made = append(made, savedOf("out 1", plainOpt(), f))
	}
	return made
}

func randomText(source *rand.Rand, count int) string {
	made := make([]byte, count)
	for at := range made {
		made[at] = byte(source.Intn(256))
	}
	return string(made)
}

func randomSaved(source *rand.Rand, most int) impl.Saved {
	return savedOf(randomText(source, source.Intn(40)), randomOpt(source, source.Intn(most+1)), randomFeed(source, testItems))
}

// wantSum says what the document says of the sum of these bytes.
func wantSum(ahead []byte) uint32 {
	s := uint64(1)
	for _, b := range ahead {
		s = (31*s + uint64(b) + 1) % testModulus
	}
	return uint32(s)
}

// resummed is a copy with the sum put right.
func resummed(file []byte) []byte {
	ahead := slices.Clone(file[:len(file)-4])
	return binary.LittleEndian.AppendUint32(ahead, wantSum(ahead))
}

// laidFile lays down any words, right or not, and whatever comes behind them.
func laidFile(words []int, body string) []byte {
	file := []byte{76, 87, 49, 10}
	for _, x := range words {
		file = binary.LittleEndian.AppendUint64(file, uint64(x))
	}
	return resummed(append(append(file, body...), 0, 0, 0, 0))
}

// bytesOf are those of the words in a file.
func bytesOf(words ...int) string {
	made := []byte{}
	for _, x := range words {
		made = binary.LittleEndian.AppendUint64(made, uint64(x))
	}
	return string(made)
}

func headWords(s impl.Saved, n int, k int) []int {
	return ints(n, k, len(s.Opt.Params), s.Opt.Count, s.Opt.Factor, s.Opt.Good, s.Feed.Items, s.Feed.Batch, s.Feed.Seed, s.Feed.Epoch, s.Feed.At, s.Feed.Workers, len(s.Text))
}

// wantPart says which of N parameters shard k has.
func wantPart(all int, n int, k int) []int {
	part := []int{}
	for at := range all {
		if at >= k*all/n && at < (k+1)*all/n {
			part = append(part, at)
		}
	}
	return part
}

// wantSave says what the document says of Save.
func wantSave(s impl.Saved, n int) [][]byte {
	files := [][]byte{}
	if !wantSavedOk(s) || !allIn(1, testWorkers, n) {
		return files
	}
	for k := range n {
		body := s.Text
		for _, at := range wantPart(len(s.Opt.Params), n, k) {
			body += bytesOf(s.Opt.Params[at], s.Opt.First[at], s.Opt.Second[at])
		}
		files = append(files, laidFile(headWords(s, n, k), body))
	}
	return files
}

func sameFiles(a [][]byte, b [][]byte) bool { return slices.EqualFunc(a, b, slices.Equal[[]byte]) }

func copiedFiles(files [][]byte) [][]byte {
	made := make([][]byte, len(files))
	for at, file := range files {
		made[at] = slices.Clone(file)
	}
	return made
}

func checkSave(t *testing.T, s impl.Saved, n int) [][]byte {
	t.Helper()
	got := impl.Save(s, n)
	if want := wantSave(s, n); !sameFiles(got, want) {
		t.Fatalf("Save of %.300s in %d is\n%.600s, not\n%.600s", fmt.Sprint(s), n, fmt.Sprint(got), fmt.Sprint(want))
	}
	for number, file := range got {
		if len(file) > testFile || len(file) < testLeastFile {
			t.Fatalf("file %d of %d has %d bytes", number, n, len(file))
		}
	}
	return got
}

// wantWord is the word at a place, in two's complement.
func wantWord(file []byte, at int) int { return int(int64(binary.LittleEndian.Uint64(file[at:]))) }

func wantHead(file []byte) []int {
	words := []int{}
	for number := range testHead {
		words = append(words, wantWord(file, 4+8*number))
	}
	return words
}

// wantForm says of which files the document does not say LoadForm.
func wantForm(file []byte) bool {
	if len(file) > testFile || len(file) < testLeastFile || string(file[:4]) != "LW1\n" {
		return false
	}
	head := wantHead(file)
	n, k, all, text := head[0], head[1], head[2], head[12]
	if !allIn(1, testWorkers, n) || !allIn(0, n-1, k) || !allIn(0, 4096, all) || !allIn(0, testText, text) {
		return false
	}
	return len(file) == testLeastFile+text+24*len(wantPart(all, n, k))
}

// wantCode is what the document says of Load ahead of LoadBad.
func wantCode(files [][]byte) int {
	if !allIn(1, testWorkers, len(files)) {
		return 1
	}
	for _, file := range files {
		if !wantForm(file) {
			return 2
		}
		if end := len(file) - 4; binary.LittleEndian.Uint32(file[end:]) != wantSum(file[:end]) {
			return 3
		}
	}
	for number, file := range files {
		head, first := wantHead(file), wantHead(files[0])
		text, firstText := string(file[108:108+head[12]]), string(files[0][108:108+first[12]])
		if head[0] != len(files) || head[1] != number || !slices.Equal(replaced(head, 1, 0), replaced(first, 1, 0)) || text != firstText {
			return 4
		}
	}
	return 0
}

// wantLoad says what the document says of Load.
func wantLoad(files [][]byte) (impl.Saved, int) {
	if code := wantCode(files); code != 0 {
		return impl.Saved{}, code
	}
	head := wantHead(files[0])
	s := savedOf(string(files[0][108:108+head[12]]), impl.Opt{Count: head[3], Factor: head[4], Good: head[5]}, feedOf(head[6], head[7], head[8], head[9], head[10], head[11]))
	for _, file := range files {
		for at := 108 + head[12]; at < len(file)-4; at += 24 {
			s.Opt.Params = append(s.Opt.Params, wantWord(file, at))
			s.Opt.First = append(s.Opt.First, wantWord(file, at+8))
			s.Opt.Second = append(s.Opt.Second, wantWord(file, at+16))
		}
	}
	if !wantSavedOk(s) {
		return impl.Saved{}, 5
	}
	return s, 0
}

func checkLoad(t *testing.T, files [][]byte) (impl.Saved, int) {
	t.Helper()
	got, code := impl.Load(files)
	if want, wanted := wantLoad(files); !sameSaved(got, want) || code != wanted {
		t.Fatalf("Load of %d files, %.600s, is\n%.300s, %d, not\n%.300s, %d", len(files), fmt.Sprint(files), fmt.Sprint(got), code, fmt.Sprint(want), wanted)
	}
	return got, code
}

// checkCode holds that files are not loaded, and why.
func checkCode(t *testing.T, what string, files [][]byte, want int) {
	t.Helper()
	if got, code := checkLoad(t, files); code != want || !isNoSaved(got) {
		t.Errorf("%s: Load is %.300s, %d, not %d", what, fmt.Sprint(got), code, want)
	}
}

func checkLoaded(t *testing.T, files [][]byte, want impl.Saved) {
	t.Helper()
	if got, code := checkLoad(t, files); code != impl.LoadOk || !sameSaved(got, want) {
		t.Fatalf("Load of %d files is %.300s, %d, not %.300s", len(files), fmt.Sprint(got), code, fmt.Sprint(want))
	}
}

// smallSaved is that of the files that are written out below.
func smallSaved() impl.Saved {
	return savedOf("a\n", impl.Opt{Params: ints(1000, -2), First: ints(-1, 258), Second: ints(0, 3), Count: 300, Factor: 4, Good: 7}, feedOf(5, 2, 9, 1, 2, 3))
}

func smallFiles() [][]byte {
	return [][]byte{
		{
			76, 87, 49, 10,
			2, 0, 0, 0, 0, 0, 0, 0 /**/, 0, 0, 0, 0, 0, 0, 0, 0 /**/, 2, 0, 0, 0, 0, 0, 0, 0,
			44, 1, 0, 0, 0, 0, 0, 0 /**/, 4, 0, 0, 0, 0, 0, 0, 0 /**/, 7, 0, 0, 0, 0, 0, 0, 0,
			5, 0, 0, 0, 0, 0, 0, 0 /**/, 2, 0, 0, 0, 0, 0, 0, 0 /**/, 9, 0, 0, 0, 0, 0, 0, 0,
			1, 0, 0, 0, 0, 0, 0, 0 /**/, 2, 0, 0, 0, 0, 0, 0, 0 /**/, 3, 0, 0, 0, 0, 0, 0, 0,
			2, 0, 0, 0, 0, 0, 0, 0,
			97, 10,
			232, 3, 0, 0, 0, 0, 0, 0 /**/, 255, 255, 255, 255, 255, 255, 255, 255 /**/, 0, 0, 0, 0, 0, 0, 0, 0,
			213, 173, 144, 225,
		},
		{
			76, 87, 49, 10,
			2, 0, 0, 0, 0, 0, 0, 0 /**/, 1, 0, 0, 0, 0, 0, 0, 0 /**/, 2, 0, 0, 0, 0, 0, 0, 0,
			44, 1, 0, 0, 0, 0, 0, 0 /**/, 4, 0, 0, 0, 0, 0, 0, 0 /**/, 7, 0, 0, 0, 0, 0, 0, 0,
			5, 0, 0, 0, 0, 0, 0, 0 /**/, 2, 0, 0, 0, 0, 0, 0, 0 /**/, 9, 0, 0, 0, 0, 0, 0, 0,
			1, 0, 0, 0, 0, 0, 0, 0 /**/, 2, 0, 0, 0, 0, 0, 0, 0 /**/, 3, 0, 0, 0, 0, 0, 0, 0,
			2, 0, 0, 0, 0, 0, 0, 0,
			97, 10,
			254, 255, 255, 255, 255, 255, 255, 255 /**/, 2, 1, 0, 0, 0, 0, 0, 0 /**/, 3, 0, 0, 0, 0, 0, 0, 0,
			176, 252, 175, 35,
		},
	}
}

// leastSaved is in a file as short as can be.
func leastSaved() impl.Saved { return savedOf("", impl.Opt{Factor: 1}, feedOf(1, 1, 0, 0, 0, 1)) }

func leastFile() []byte {
	return []byte{
		76, 87, 49, 10,
		1, 0, 0, 0, 0, 0, 0, 0 /**/, 0, 0, 0, 0, 0, 0, 0, 0 /**/, 0, 0, 0, 0, 0, 0, 0, 0,
		0, 0, 0, 0, 0, 0, 0, 0 /**/, 1, 0, 0, 0, 0, 0, 0, 0 /**/, 0, 0, 0, 0, 0, 0, 0, 0,
		1, 0, 0, 0, 0, 0, 0, 0 /**/, 1, 0, 0, 0, 0, 0, 0, 0 /**/, 0, 0, 0, 0, 0, 0, 0, 0,
		0, 0, 0, 0, 0, 0, 0, 0 /**/, 0, 0, 0, 0, 0, 0, 0, 0 /**/, 1, 0, 0, 0, 0, 0, 0, 0,
		0, 0, 0, 0, 0, 0, 0, 0,
		187, 12, 167, 115,
	}
}

func TestSaveOfFilesWrittenOut(t *testing.T) {
	if got := checkSave(t, smallSaved(), 2); !sameFiles(got, smallFiles()) {
		t.Errorf("Save of the small ones is %v", got)
	}
	if got := checkSave(t, leastSaved(), 1); !sameFiles(got, [][]byte{leastFile()}) {
		t.Errorf("Save of the least one is %v", got)
	}
	checkLoaded(t, smallFiles(), smallSaved())
	checkLoaded(t, [][]byte{leastFile()}, leastSaved())
}

// shardCounts are numbers of shards, and ints that are none.
func shardCounts() []int { return append(around(1, testWorkers), -1, -2, 3, 5, 7, 1<<32, 1<<32+1) }

func TestSaveAgainstWords(t *testing.T) {
	source := rand.New(rand.NewSource(270))
	for _, s := range rightSaved() {
		for _, n := range shardCounts() {
			if got := checkSave(t, s, n); len(got) > 0 != allIn(1, testWorkers, n) || len(got) > 0 && len(got) != n {
				t.Errorf("Save in %d has %d files", n, len(got))
			}
		}
	}
	for _, s := range wrongSaved() {
		for _, n := range ints(-1, 0, 1, 3, 64, 65) {
			if got := checkSave(t, s, n); len(got) != 0 {
				t.Errorf("Save of %.300s in %d has %d files", fmt.Sprint(s), n, len(got))
			}
		}
	}
	for range 400 {
		checkSave(t, randomSaved(source, 30), 1+source.Intn(testWorkers))
	}
}

func TestSaveSharesOut(t *testing.T) {
	for _, row := range []struct {
		count, n int
		want     []int
	}{
		{0, 1, ints(0)}, {0, 3, ints(0, 0, 0)}, {1, 1, ints(1)}, {1, 2, ints(0, 1)}, {1, 3, ints(0, 0, 1)}, {2, 3, ints(0, 1, 1)}, {3, 5, ints(0, 1, 0, 1, 1)}, {6, 3, ints(2, 2, 2)}, {7, 3, ints(2, 2, 3)}, {8, 3, ints(2, 3, 3)}, {10, 4, ints(2, 3, 2, 3)}, {4096, 3, ints(1365, 1365, 1366)},
	} {
		next := 0
		for k, file := range checkSave(t, savedOf("xy", manyParams(row.count), feedOf(5, 2, 9, 1, 2, 3)), row.n) {
			if len(file) != 112+2+24*row.want[k] {
				t.Errorf("of %d parameters in %d shards number %d has %d bytes", row.count, row.n, k, len(file))
			}
			next += row.want[k]
		}
		if next != row.count {
			t.Errorf("of %d parameters %d are wanted", row.count, next)
		}
	}
	// None has a parameter but the last; none but the last has none.
	for k, file := range checkSave(t, savedOf("", manyParams(1), feedOf(5, 2, 9, 1, 2, 3)), 64) {
		if len(file) > 112 != (k == 63) {
			t.Errorf("of one parameter in 64 shards number %d has %d bytes", k, len(file))
		}
	}
	for k, file := range checkSave(t, savedOf("", manyParams(63), feedOf(5, 2, 9, 1, 2, 3)), 64) {
		if len(file) > 112 != (k > 0) {
			t.Errorf("of 63 parameters in 64 shards number %d has %d bytes", k, len(file))
		}
	}
}

// P43: Load of Save is what was saved, from any number of shards.
func TestLoadOfSave(t *testing.T) {
	source := rand.New(rand.NewSource(271))
	for _, s := range rightSaved() {
		for _, n := range ints(1, 2, 3, 5, 7, 63, 64) {
			checkLoaded(t, impl.Save(s, n), s)
		}
	}
	for range 40 {
		s := randomSaved(source, 100)
		for n := range testWorkers {
			checkLoaded(t, impl.Save(s, n+1), s)
		}
	}
	for range 1000 {
		s := randomSaved(source, 20)
		checkLoaded(t, impl.Save(s, 1+source.Intn(testWorkers)), s)
	}
}

func TestLargestFiles(t *testing.T) {
	source := rand.New(rand.NewSource(272))
	for _, count := range ints(4095, 4096) {
		s := savedOf(randomText(source, testText), randomOpt(source, count), randomFeed(source, testItems))
		for _, n := range ints(1, 2, 3, 63, 64) {
			files := checkSave(t, s, n)
			checkLoaded(t, files, s)
			if n == 1 && len(files[0]) != 112+4000+24*count {
				t.Errorf("the largest file has %d bytes", len(files[0]))
			}
		}
	}
	for _, s := range []impl.Saved{savedOf("", manyParams(4097), feedOf(1, 1, 0, 0, 0, 1)), savedOf(strings.Repeat("x", 4001), optOf(), feedOf(1, 1, 0, 0, 0, 1))} {
		for _, n := range ints(1, 64) {
			if got := checkSave(t, s, n); len(got) != 0 {
				t.Errorf("Save of one more than there may be has %d files", len(got))
			}
		}
	}
}

func TestLoadOfNoneOrTooMany(t *testing.T) {
	checkCode(t, "nil", nil, impl.LoadNone)
	checkCode(t, "no files", [][]byte{}, impl.LoadNone)
	files := impl.Save(plainSaved(), 64)
	checkLoaded(t, files, plainSaved())
	checkCode(t, "one more", append(slices.Clone(files), files[63]), impl.LoadNone)
	checkCode(t, "one more that is nothing", append(slices.Clone(files), nil), impl.LoadNone)
	checkCode(t, "65 of one", slices.Repeat([][]byte{leastFile()}, 65), impl.LoadNone)
	checkCode(t, "65 of nothing", make([][]byte, 65), impl.LoadNone)
	checkCode(t, "64 of nothing", make([][]byte, 64), impl.LoadForm)
	checkCode(t, "one of nothing", make([][]byte, 1), impl.LoadForm)
	checkCode(t, "1000 of one", slices.Repeat([][]byte{leastFile()}, 1000), impl.LoadNone)
}

// withWord is a copy with another word in its head, and its sum put right.
func withWord(file []byte, number int, x int) []byte {
	made := slices.Clone(file)
	binary.LittleEndian.PutUint64(made[4+8*number:], uint64(x))
	return resummed(made)
}

func withByte(file []byte, at int, b byte) []byte {
	made := slices.Clone(file)
	made[at] = b
	return made
}

func withFile(files [][]byte, number int, file []byte) [][]byte {
	made := slices.Clone(files)
	made[number] = file
	return made
}

// checkWrongForm holds it of a file alone, of each file of several, and behind
// others that are right.
func checkWrongForm(t *testing.T, what string, file []byte) {
	t.Helper()
	checkCode(t, what, [][]byte{file}, impl.LoadForm)
	if len(file) >= 4 {
		checkCode(t, what+", with another sum", [][]byte{withByte(file, len(file)-1, file[len(file)-1]^1)}, impl.LoadForm)
	}
	for number := range 3 {
		checkCode(t, what, withFile(impl.Save(plainSaved(), 3), number, file), impl.LoadForm)
	}
}

func TestLoadOfWrongLengths(t *testing.T) {
	for _, file := range append(smallFiles(), leastFile(), impl.Save(plainSaved(), 1)[0]) {
		for length := range len(file) {
			checkWrongForm(t, fmt.Sprint("the first ", length), file[:length])
			if length >= 4 {
				checkWrongForm(t, fmt.Sprint("the first ", length, ", summed"), resummed(file[:length]))
			}
		}
		for _, more := range ints(1, 2, 3, 4, 8, 23, 24, 25, 48, 119999-len(file), 120000-len(file), 120001-len(file), 200000) {
			longer := append(slices.Clone(file), make([]byte, more)...)
			checkWrongForm(t, fmt.Sprint(more, " more"), longer)
			checkWrongForm(t, fmt.Sprint(more, " more, summed"), resummed(longer))
		}
	}
	if checkLoaded(t, [][]byte{leastFile()}, leastSaved()); len(leastFile()) != 112 {
		t.Error("the least file has not 112 bytes")
	}
	checkWrongForm(t, "111 bytes", resummed(leastFile()[:111]))
}

func TestLoadOfAnotherBeginning(t *testing.T) {
	for _, file := range append(smallFiles(), leastFile()) {
		for at := range 4 {
			for b := range 256 {
				if byte(b) != file[at] {
					checkWrongForm(t, fmt.Sprint("byte ", at, " is ", b), resummed(withByte(file, at, byte(b))))
				}
			}
		}
		checkWrongForm(t, "a beginning that is turned round", resummed(append([]byte{10, 49, 87, 76}, file[4:]...)))
	}
}

// plainWords are those of a head of shard k of n.
func plainWords(n int, k int, all int, text int) []int {
	return ints(n, k, all, 5, 4, 3, 5, 2, 9, 1, 2, 3, text)
}

// Here the length is what the words would make, wherever that can be, and the
// sum is right: it is the word itself that is told.
func TestLoadOfWrongWords(t *testing.T) {
	const low, high = math.MinInt, math.MaxInt
	for _, row := range []struct{ n, k, all, text, body int }{
		// n: 0, MaxWorkers and one more, and beyond.
		{0, 0, 0, 0, 0}, {0, -1, 0, 0, 0}, {0, 1, 0, 0, 0}, {0, 0, 2, 0, 48}, {65, 0, 0, 0, 0}, {65, 64, 0, 0, 0}, {65, 64, 1, 0, 24}, {65, 0, 1, 0, 0}, {-1, 0, 0, 0, 0}, {-1, -2, 0, 0, 0}, {-1, -1, 0, 0, 0}, {low, 0, 0, 0, 0}, {high, 0, 0, 0, 0}, {high, high - 1, 0, 0, 0}, {low, low, low, low, 0}, {high, high, high, high, 0}, {1 << 32, 0, 0, 0, 0}, {1 + 1<<32, 0, 0, 0, 0}, {1 - 1<<63, 0, 0, 0, 0}, {1 + 1<<62, 0, 0, 0, 0},
		// k: -1, and n.
		{1, -1, 0, 0, 0}, {3, -1, 0, 0, 0}, {3, -1, 6, 0, 48}, {1, -1, 1, 0, 24}, {3, -1, 1, 0, 0}, {1, 1, 0, 0, 0}, {3, 3, 0, 0, 0}, {3, 3, 6, 0, 48}, {3, 4, 6, 0, 48}, {1, 1, 1, 0, 24}, {64, 64, 0, 0, 0}, {64, -1, 0, 0, 0}, {3, low, 0, 0, 0}, {3, high, 0, 0, 0}, {3, low, 6, 0, 48}, {3, high, 6, 0, 48}, {3, high - 1, 6, 0, 48}, {3, 1 << 32, 0, 0, 0}, {2, 1 << 62, 4, 0, 48}, {1, low, 2, 0, 48}, {1, 1 << 62, 4, 0, 96},
		// N: -1, MaxSize and one more, and so great that its bytes would come round to what is there.
		{2, 0, -1, 0, 0}, {1, 0, -1, 24, 0}, {1, 0, -1, 0, 0}, {2, 1, -1, 24, 0}, {64, 0, -1, 0, 0}, {1, 0, 4097, 0, 24 * 4097}, {64, 0, 4097, 0, 24 * 64}, {64, 63, 4097, 0, 24 * 65}, {1, 0, low, 0, 0}, {1, 0, high, 24, 0}, {1, 0, high, 0, 0}, {1, 0, 1 << 61, 0, 0}, {1, 0, 1<<61 + 2, 0, 48}, {1, 0, -1 << 61, 0, 0}, {2, 1, 1 << 62, 0, 0}, {64, 63, high, 0, 0}, {64, 63, low, 0, 0}, {64, 0, high, 0, 0}, {1, 0, 1 << 32, 0, 0}, {2, 0, 1 << 32, 0, 0},
		// Text: -1, MaxSource and one more, and beyond.
		{1, 0, 1, -1, 23}, {1, 0, 0, -1, 0}, {1, 0, 1, -24, 0}, {1, 0, 2, -24, 24}, {1, 0, 0, 4001, 4001}, {1, 0, 2, 4001, 4049}, {3, 2, 0, 4001, 4001}, {1, 0, 0, low, 0}, {1, 0, 0, high, 0}, {1, 0, 1, 1 - 1<<63, 25}, {1, 0, 4, low, 96}, {1, 0, 0, 1 << 32, 0}, {1, 0, 0, 119888, 119888},
		// A length that the words don't make.
		{1, 0, 1, 1, 24}, {1, 0, 1, 1, 26}, {1, 0, 1, 0, 0}, {1, 0, 0, 0, 24}, {3, 0, 7, 0, 24}, {3, 0, 7, 0, 72}, {3, 2, 7, 0, 48}, {3, 2, 7, 0, 96}, {2, 0, 1, 0, 24}, {2, 1, 1, 0, 0}, {1, 0, 4096, 0, 24*4096 - 1}, {1, 0, 4096, 0, 24*4096 + 1}, {1, 0, 0, 4000, 3999}, {1, 0, 0, 4000, 4001},
	} {
		checkWrongForm(t, fmt.Sprint(row), laidFile(plainWords(row.n, row.k, row.all, row.text), strings.Repeat("\x00", row.body)))
	}
	// Just as far as it goes, these are of the right form.
	for _, row := range []struct{ n, k, all, text, body, code int }{
		{1, 0, 0, 0, 0, impl.LoadOk}, {1, 0, 4096, 0, 24 * 4096, impl.LoadOk}, {1, 0, 0, 4000, 4000, impl.LoadOk}, {1, 0, 4096, 4000, 4000 + 24*4096, impl.LoadOk}, {1, 0, 1, 1, 25, impl.LoadOk},
		{64, 0, 0, 0, 0, impl.LoadPart}, {64, 63, 0, 0, 0, impl.LoadPart}, {3, 2, 0, 0, 0, impl.LoadPart}, {3, 2, 7, 0, 72, impl.LoadPart}, {64, 63, 4096, 4000, 4000 + 24*64, impl.LoadPart}, {64, 0, 63, 0, 0, impl.LoadPart}, {64, 63, 1, 0, 24, impl.LoadPart}, {2, 0, 1, 0, 0, impl.LoadPart},
	} {
		if _, code := checkLoad(t, [][]byte{laidFile(plainWords(row.n, row.k, row.all, row.text), strings.Repeat("\x00", row.body))}); code != row.code {
			t.Errorf("Load of %v is %d", row, code)
		}
	}
}

// The four words at the edges, all with all, at the lengths that they make
// where these can be, and at others.
func TestLoadOfWordsAgainstWords(t *testing.T) {
	right := 0
	for _, n := range append(around(1, testWorkers), 3) {
		for _, k := range ints(math.MinInt, -1, 0, 1, 2, n-1, n, n+1, math.MaxInt) {
			for _, all := range ints(math.MinInt, -1, 0, 1, 7, 1<<61, math.MaxInt) {
				for _, text := range ints(math.MinInt, -24, -1, 0, 1, 24, math.MaxInt) {
					for _, body := range ints(0, 1, 24, 23, 48, text, text+24, text+48, text+72) {
						if !allIn(0, 200, body) {
							continue
						}
						file := laidFile(plainWords(n, k, all, text), strings.Repeat("\x00", body))
						if _, code := checkLoad(t, [][]byte{file}); code != impl.LoadForm {
							right++
						}
					}
				}
			}
		}
	}
	if right < 100 {
		t.Errorf("%d were of the right form", right)
	}
}

func TestLoadOfAnotherSum(t *testing.T) {
	for number := range 2 {
		for at := range 4 {
			for by := 1; by < 256; by++ {
				files := smallFiles()
				files[number][len(files[number])-4+at] ^= byte(by)
				checkCode(t, fmt.Sprint("byte ", at, " of the sum of file ", number), files, impl.LoadSum)
			}
		}
	}
	// The bytes of a sum from the highest on; a sum of 0; that of all that follows the beginning.
	file := leastFile()
	turned := slices.Clone(file)
	slices.Reverse(turned[108:])
	checkCode(t, "a sum turned round", [][]byte{turned}, impl.LoadSum)
	checkCode(t, "a sum of 0", [][]byte{append(slices.Clone(file[:108]), 0, 0, 0, 0)}, impl.LoadSum)
	checkCode(t, "a sum of some", [][]byte{binary.LittleEndian.AppendUint32(slices.Clone(file[:108]), wantSum(file[4:108]))}, impl.LoadSum)
}

// summedTo has a Text by which the sum of its one file is as wanted: behind all
// else seven bytes come, which are the digits of any number to the base 31.
func summedTo(t *testing.T, want int) (impl.Saved, []byte) {
	t.Helper()
	s := savedOf("out 1\n1234567", optOf(), feedOf(5, 2, 9, 1, 2, 3))
	ahead := laidFile(headWords(s, 1, 0), s.Text[:6])
	rest := want - int(wantSum(append(ahead[:len(ahead)-4], make([]byte, 7)...)))
	rest = (rest%testModulus + testModulus) % testModulus
	digits := make([]byte, 7)
	for at := range 7 {
		digits[6-at] = byte(rest % 31)
		rest /= 31
	}
	s.Text = s.Text[:6] + string(digits)
	files := checkSave(t, s, 1)
	if sum := binary.LittleEndian.Uint32(files[0][len(files[0])-4:]); sum != uint32(want) {
		t.Fatalf("the sum is %d, not %d", sum, want)
	}
	return s, files[0]
}

// Sums at the ends: one that is as great but for the modulus is another one.
func TestLoadOfASumBeyondTheModulus(t *testing.T) {
	for want := range 5 {
		s, file := summedTo(t, want)
		checkLoaded(t, [][]byte{file}, s)
		end := len(file) - 4
		binary.LittleEndian.PutUint32(file[end:], uint32(want+testModulus))
		checkCode(t, fmt.Sprint("a sum of ", want, " and the modulus"), [][]byte{file}, impl.LoadSum)
	}
	for _, want := range ints(5, 255, 256, 1<<31-1, 1<<31, testModulus-2, testModulus-1) {
		s, file := summedTo(t, want)
		checkLoaded(t, [][]byte{file}, s)
	}
}

func TestLoadOfFilesThatAreNotTheParts(t *testing.T) {
	s := savedOf("ab", manyParams(7), feedOf(5, 2, 9, 1, 2, 3))
	files := impl.Save(s, 3)
	part := func(what string, files ...[]byte) {
		t.Helper()
		checkCode(t, what, files, impl.LoadPart)
	}
	checkLoaded(t, files, s)
	for number := range files {
		part("one too few", slices.Delete(slices.Clone(files), number, number+1)...)
		part("one alone", files[number])
		for at := range 4 {
			part("one more", slices.Insert(slices.Clone(files), at, files[number])...)
		}
		for other := range files {
			if other != number {
				part("one twice", withFile(files, number, files[other])...)
				exchanged := slices.Clone(files)
				exchanged[number], exchanged[other] = files[other], files[number]
				part("two exchanged", exchanged...)
			}
		}
		part("one thrice", files[number], files[number], files[number])
	}
	part("the first put last", files[1], files[2], files[0])
	part("the last put first", files[2], files[0], files[1])
	four := impl.Save(s, 4)
	part("four of three and four", append(slices.Clone(files), four[3])...)
	part("three of four", four[:3]...)
	part("one of another number", files[0], four[1], files[2])
	part("the first of another number", four[0], files[1], files[2])
	part("one shard twice", leastFile(), leastFile())
	many := impl.Save(s, 64)
	part("63 of 64", many[:63]...)
	part("63 of 64, and one twice", append(slices.Clone(many[:63]), many[0])...)
}

// Each word of the head but k, unlike in one file, with its sum put right.
func TestLoadOfUnlikeHeads(t *testing.T) {
	s := plainSaved()
	files := impl.Save(s, 3)
	for number, file := range files {
		head := wantHead(file)
		for word := 3; word < 12; word++ {
			for _, x := range ints(head[word]-1, head[word]+1, 0, 1, -1, 1<<32+head[word], math.MinInt, math.MaxInt) {
				if x != head[word] {
					checkCode(t, fmt.Sprint("word ", word, " of file ", number, " is ", x), withFile(files, number, withWord(file, word, x)), impl.LoadPart)
				}
			}
		}
		for k := range 3 {
			if k != number {
				checkCode(t, fmt.Sprint("file ", number, " has ", k), withFile(files, number, withWord(file, 1, k)), impl.LoadPart)
			}
		}
	}
	// Without parameters n and N may be others, and the form is right.
	none := impl.Save(savedOf("ab", optOf(), feedOf(5, 2, 9, 1, 2, 3)), 3)
	for number, file := range none {
		for n := number + 1; n <= testWorkers; n++ {
			if n != 3 {
				checkCode(t, fmt.Sprint("n of file ", number, " is ", n), withFile(none, number, withWord(file, 0, n)), impl.LoadPart)
			}
		}
	}
	checkCode(t, "N of the first is 1", withFile(none, 0, withWord(none[0], 2, 1)), impl.LoadPart)
	checkCode(t, "N of the first is 2", withFile(none, 0, withWord(none[0], 2, 2)), impl.LoadPart)
	checkCode(t, "N of the second is 1", withFile(none, 1, withWord(none[1], 2, 1)), impl.LoadPart)
	checkCode(t, "N of the last is 1", withFile(none, 2, withWord(none[2], 2, 1)), impl.LoadForm)
	seven := impl.Save(savedOf("ab", manyParams(7), feedOf(5, 2, 9, 1, 2, 3)), 3)
	for number, all := range ints(8, 6, 8) {
		unlike := withWord(seven[number], 2, all)
		if !wantForm(unlike) {
			t.Fatalf("with %d parameters file %d is of another form", all, number)
		}
		checkCode(t, fmt.Sprint("N of file ", number, " is ", all), withFile(seven, number, unlike), impl.LoadPart)
	}
	// All of them are unlike how many files there are.
	for _, n := range ints(4, 5, 64) {
		all := [][]byte{}
		for _, file := range none {
			all = append(all, withWord(file, 0, n))
		}
		checkCode(t, fmt.Sprint("n of all is ", n), all, impl.LoadPart)
	}
}

func TestLoadOfUnlikeTexts(t *testing.T) {
	s := savedOf("abc", manyParams(7), feedOf(5, 2, 9, 1, 2, 3))
	files := impl.Save(s, 3)
	for number, file := range files {
		for at := range 3 {
			for by := 1; by < 256; by++ {
				unlike := resummed(withByte(file, 108+at, file[108+at]^byte(by)))
				checkCode(t, fmt.Sprint("byte ", at, " of the Text of file ", number), withFile(files, number, unlike), impl.LoadPart)
			}
		}
		for _, text := range []string{"", "a", "ab", "abcd", "abc\x00"} {
			other := s
			other.Text = text
			checkCode(t, fmt.Sprintf("the Text of file %d is %q", number, text), withFile(files, number, impl.Save(other, 3)[number]), impl.LoadPart)
		}
	}
}

// Which parameters stand in which file is told by the heads alone.
func TestLoadOfOtherRows(t *testing.T) {
	s, other := savedOf("abc", manyParams(7), feedOf(5, 2, 9, 1, 2, 3)), savedOf("abc", manyParams(7), feedOf(5, 2, 9, 1, 2, 3))
	for at := range 7 {
		other.Opt.Params[at] = -at
	}
	files, others := impl.Save(s, 3), impl.Save(other, 3)
	want := savedOf("abc", optOf(1000, 1000, -2, -3, 1000, 1000, 1000), s.Feed)
	checkLoaded(t, withFile(files, 1, others[1]), want)
}

// wrongWords are numbers that a word of the head can't be, though all else is
// right.
func wrongWords() map[int][]int {
	return map[int][]int{
		3: ints(-1, testSteps+1, math.MinInt, math.MaxInt), 4: ints(0, -1, 3, 5, 131072, math.MinInt, math.MaxInt, 1<<32+4), 5: ints(-1, testSteps+1, math.MinInt, math.MaxInt),
		6: ints(0, -1, 1, 3, 4097, math.MinInt, math.MaxInt), 7: ints(0, -1, 3, 4, 5, 6, math.MinInt, math.MaxInt), 8: ints(-1, 1<<32, math.MinInt, math.MaxInt),
		9: ints(-1, testEpochs+1, math.MinInt, math.MaxInt), 10: ints(-2, -1, 1, 3, 4, 6, math.MinInt, math.MaxInt), 11: ints(0, -1, 65, math.MinInt, math.MaxInt),
	}
}

func TestLoadOfWhatIsNotSavedOk(t *testing.T) {
	for _, n := range ints(1, 2, 3, 64) {
		files := impl.Save(plainSaved(), n)
		for word, list := range wrongWords() {
			for _, x := range list {
				all := [][]byte{}
				for _, file := range files {
					all = append(all, withWord(file, word, x))
				}
				checkCode(t, fmt.Sprint("word ", word, " of all ", n, " is ", x), all, impl.LoadBad)
			}
		}
	}
	for _, row := range [][3]int{
		{testParam + 1, 0, 0}, {-testParam - 1, 0, 0}, {math.MinInt, 0, 0}, {math.MaxInt, 0, 0}, {0, testFirst + 1, 0}, {0, -testFirst - 1, 0}, {0, math.MinInt, 0}, {0, math.MaxInt, 0}, {0, 0, -1}, {0, 0, testSecond + 1}, {0, 0, math.MinInt}, {0, 0, math.MaxInt},
	} {
		for number := range 3 {
			files := impl.Save(plainSaved(), 3)
			copy(files[number][108+6:], bytesOf(row[:]...))
			files[number] = resummed(files[number])
			checkCode(t, fmt.Sprint("the row of file ", number, " is ", row), files, impl.LoadBad)
		}
	}
	// The rows at their ends are loaded.
	for number, row := range [][3]int{{testParam, -testFirst, 0}, {-testParam, testFirst, testSecond}} {
		files := smallFiles()
		copy(files[number][110:], bytesOf(row[:]...))
		files[number] = resummed(files[number])
		want := smallSaved()
		want.Opt.Params[number], want.Opt.First[number], want.Opt.Second[number] = row[0], row[1], row[2]
		checkLoaded(t, files, want)
	}
}

func TestWhichCodeComesFirst(t *testing.T) {
	files := impl.Save(plainSaved(), 3)
	sum := func(file []byte) []byte { return withByte(file, len(file)-1, file[len(file)-1]^1) }
	form := func(file []byte) []byte { return file[:len(file)-1] }
	bad := func(file []byte) []byte { return withWord(file, 4, 3) }
	a, b, c := files[0], files[1], files[2]
	for at, row := range []struct {
		files [][]byte
		want  int
	}{
		// File by file: the form, then the sum.
		{[][]byte{sum(a), form(b), c}, impl.LoadSum}, {[][]byte{form(a), sum(b), c}, impl.LoadForm}, {[][]byte{a, sum(b), form(c)}, impl.LoadSum}, {[][]byte{a, form(b), sum(c)}, impl.LoadForm}, {[][]byte{sum(a), b, form(c)}, impl.LoadSum}, {[][]byte{sum(form(a)), b, c}, impl.LoadForm}, {[][]byte{a, b, form(sum(c))}, impl.LoadForm},
		// The last one alone is wrong.
		{[][]byte{a, b, sum(c)}, impl.LoadSum}, {[][]byte{a, b, form(c)}, impl.LoadForm}, {[][]byte{a, b, bad(c)}, impl.LoadPart}, {[][]byte{a, b, nil}, impl.LoadForm}, {[][]byte{a, b, leastFile()}, impl.LoadPart},
		// Forms and sums of all files come ahead of parts.
		{[][]byte{b, a, sum(c)}, impl.LoadSum}, {[][]byte{b, a, form(c)}, impl.LoadForm}, {[][]byte{a, sum(c)}, impl.LoadSum}, {[][]byte{a, form(c)}, impl.LoadForm}, {[][]byte{sum(c), a}, impl.LoadSum}, {[][]byte{form(c), a}, impl.LoadForm}, {[][]byte{a, b, c, sum(a)}, impl.LoadSum}, {[][]byte{a, b, c, form(a)}, impl.LoadForm}, {[][]byte{a, b, c, nil}, impl.LoadForm}, {[][]byte{a, a, sum(a)}, impl.LoadSum}, {[][]byte{bad(a), b, sum(c)}, impl.LoadSum},
		// Parts come ahead of what is not SavedOk, and that behind all.
		{[][]byte{bad(a), b, c}, impl.LoadPart}, {[][]byte{bad(a), bad(c), bad(b)}, impl.LoadPart}, {[][]byte{bad(a), bad(b)}, impl.LoadPart}, {[][]byte{bad(a), bad(b), bad(c)}, impl.LoadBad}, {[][]byte{bad(a), bad(b), sum(bad(c))}, impl.LoadSum}, {[][]byte{bad(a), bad(b), form(bad(c))}, impl.LoadForm},
		// None, or too many, come ahead of everything.
		{slices.Repeat([][]byte{form(a)}, 65), impl.LoadNone}, {slices.Repeat([][]byte{sum(a)}, 65), impl.LoadNone}, {slices.Repeat([][]byte{bad(a)}, 65), impl.LoadNone}, {slices.Repeat([][]byte{a}, 64), impl.LoadPart}, {append(slices.Repeat([][]byte{a}, 63), sum(a)), impl.LoadSum},
	} {
		checkCode(t, fmt.Sprint("row ", at), row.files, row.want)
	}
}

// P44: one changed byte is told, wherever it is.
func TestEachChangedByteIsTold(t *testing.T) {
	told := func(files [][]byte, number int, by byte) {
		t.Helper()
		file := files[number]
		for at := range file {
			file[at] ^= by
			if got, code := checkLoad(t, files); code == impl.LoadOk || !isNoSaved(got) {
				t.Fatalf("byte %d of file %d, changed by %d, is not told", at, number, by)
			}
			file[at] ^= by
		}
	}
	files := smallFiles()
	for by := 1; by < 256; by++ {
		told(files, 0, byte(by))
		told(files, 1, byte(by))
	}
	least := [][]byte{leastFile()}
	for by := 1; by < 256; by++ {
		told(least, 0, byte(by))
	}
	source := rand.New(rand.NewSource(273))
	many := impl.Save(savedOf("many", randomOpt(source, 70), feedOf(5, 2, 9, 1, 2, 3)), 64)
	for number := range many {
		told(many, number, byte(1+source.Intn(255)))
	}
	large := impl.Save(savedOf(randomText(source, 700), randomOpt(source, 30), feedOf(5, 2, 9, 1, 2, 3)), 2)
	for number := range large {
		told(large, number, byte(1<<source.Intn(8)))
		told(large, number, byte(1+source.Intn(255)))
	}
}

// P44: any file that is cut short is told.
func TestEachFileCutShortIsTold(t *testing.T) {
	source := rand.New(rand.NewSource(274))
	for _, files := range [][][]byte{
		{leastFile()}, smallFiles(), impl.Save(plainSaved(), 1), impl.Save(plainSaved(), 3), impl.Save(plainSaved(), 5), impl.Save(savedOf("", manyParams(9), feedOf(5, 2, 9, 1, 2, 3)), 4),
		impl.Save(savedOf("many", randomOpt(source, 70), feedOf(5, 2, 9, 1, 2, 3)), 64), impl.Save(savedOf(randomText(source, 300), randomOpt(source, 12), feedOf(5, 2, 9, 1, 2, 3)), 2),
	} {
		for number, file := range files {
			for length := range len(file) {
				if got, code := impl.Load(withFile(files, number, file[:length])); code != impl.LoadForm || !isNoSaved(got) {
					t.Fatalf("file %d of %d, cut to %d bytes, gives %.300s, %d", number, len(files), length, fmt.Sprint(got), code)
				}
			}
		}
	}
}

// What a changed byte gives when the sum is put right again, and other ways to
// spoil files by chance.
func TestSpoiltFilesAgainstWords(t *testing.T) {
	source := rand.New(rand.NewSource(275))
	codes := map[int]int{}
	for range 20000 {
		n := 1 + source.Intn(4)
		files := impl.Save(savedOf(randomText(source, source.Intn(4)), randomOpt(source, source.Intn(6)), randomFeed(source, 20)), n)
		for range 1 + source.Intn(2) {
			files = spoiltFiles(source, files)
		}
		_, code := checkLoad(t, files)
		codes[code]++
	}
	for code := range 6 {
		if codes[code] < 50 {
			t.Errorf("code %d came %d times", code, codes[code])
		}
	}
}

func spoiltFiles(source *rand.Rand, files [][]byte) [][]byte {
	if len(files) == 0 {
		return files
	}
	number := source.Intn(len(files))
	file := files[number]
	if len(file) < 108 {
		return files
	}
	edges := ints(math.MinInt, -1, 0, 1, 2, 3, 4, 5, 64, 65, 4096, 4097, math.MaxInt)
	switch word, x := source.Intn(testHead), edges[source.Intn(len(edges))]; source.Intn(9) {
	case 0:
		files[number] = withByte(file, source.Intn(len(file)), byte(source.Intn(256)))
	case 1:
		files[number] = resummed(withByte(file, source.Intn(len(file)), byte(source.Intn(256))))
	case 2:
		files[number] = withWord(file, word, x)
	case 3:
		for at := range files {
			if len(files[at]) >= 112 {
				files[at] = withWord(files[at], word, x)
			}
		}
	case 4:
		other := source.Intn(len(files))
		files[number], files[other] = files[other], files[number]
	case 5:
		files = slices.Delete(files, number, number+1)
	case 6:
		files = slices.Insert(files, number, files[source.Intn(len(files))])
	case 7:
		files[number] = file[:source.Intn(len(file)+1)]
	case 8:
		files[number] = withWord(file, word, wantHead(file)[word]+source.Intn(3)-1)
	}
	return files
}

// wantReshard says what the document says of Reshard.
func wantReshard(files [][]byte, n int) ([][]byte, int) {
	if !allIn(1, testWorkers, n) {
		return [][]byte{}, 1
	}
	s, code := wantLoad(files)
	if code != 0 {
		return [][]byte{}, code
	}
	return wantSave(s, n), 0
}

func checkReshard(t *testing.T, files [][]byte, n int) ([][]byte, int) {
	t.Helper()
	got, code := impl.Reshard(files, n)
	if want, wanted := wantReshard(files, n); !sameFiles(got, want) || code != wanted {
		t.Fatalf("Reshard of %d files to %d has %d files, %d, not %d, %d", len(files), n, len(got), code, len(want), wanted)
	}
	return got, code
}

func TestReshard(t *testing.T) {
	source := rand.New(rand.NewSource(276))
	made := []impl.Saved{plainSaved(), leastSaved(), smallSaved(), savedOf(randomText(source, testText), randomOpt(source, 300), feedOf(5, 2, 9, 1, 2, 3))}
	for range 8 {
		made = append(made, randomSaved(source, 100))
	}
	for _, s := range made {
		for _, from := range ints(1, 2, 3, 7, 64) {
			files := impl.Save(s, from)
			for _, n := range append(shardCounts(), from) {
				again, code := checkReshard(t, files, n)
				if !allIn(1, testWorkers, n) {
					if len(again) != 0 || code != impl.LoadNone {
						t.Errorf("Reshard to %d has %d files, %d", n, len(again), code)
					}
					continue
				}
				if code != impl.LoadOk || len(again) != n || !sameFiles(again, impl.Save(s, n)) {
					t.Errorf("Reshard from %d to %d is not Save of Load", from, n)
				}
				if back, code := checkReshard(t, again, from); code != impl.LoadOk || !sameFiles(back, files) {
					t.Errorf("Reshard from %d to %d, and back, is another", from, n)
				}
			}
		}
	}
}

func TestReshardOfWhatIsNotLoaded(t *testing.T) {
	files := impl.Save(plainSaved(), 3)
	all := [][]byte{}
	for _, file := range files {
		all = append(all, withWord(file, 4, 3))
	}
	for _, row := range []struct {
		files [][]byte
		want  int
	}{
		{nil, impl.LoadNone}, {[][]byte{}, impl.LoadNone}, {slices.Repeat(files, 30), impl.LoadNone}, {[][]byte{nil}, impl.LoadForm}, {withFile(files, 2, files[2][:100]), impl.LoadForm}, {withFile(files, 2, withByte(files[2], 20, 77)), impl.LoadForm}, {withFile(files, 2, withByte(files[2], 30, 77)), impl.LoadSum}, {files[:2], impl.LoadPart}, {files[1:], impl.LoadPart}, {all, impl.LoadBad},
	} {
		for _, n := range shardCounts() {
			want := row.want
			if !allIn(1, testWorkers, n) {
				want = impl.LoadNone
			}
			if got, code := checkReshard(t, row.files, n); len(got) != 0 || code != want {
				t.Errorf("Reshard to %d has %d files, %d, not %d", n, len(got), code, want)
			}
		}
	}
}

// gradsFor are made of the examples of a batch, and of where the Params stand.
func gradsFor(o impl.Opt, batch []int) []int {
	grads := make([]int, len(o.Params))
	for at, p := range o.Params {
		for number, example := range batch {
			grads[at] += (example*37+at*11+number)%401 - 200 + p%17
		}
		grads[at] *= o.Factor
	}
	return grads
}

// trained goes some steps on from what is saved, each by the next batch, and
// tells whether it came to its end.
func trained(r impl.Rule, s impl.Saved, steps int) (impl.Saved, bool) {
	for range steps {
		parts, behind, ok := impl.NextBatch(s.Feed)
		if !ok {
			return s, false
		}
		o, done := impl.RunOpt(r, s.Opt, [][]int{gradsFor(s.Opt, impl.Round(parts))})
		if done != 1 {
			return s, false
		}
		s.Opt, s.Feed = o, behind
	}
	return s, true
}

// P43: a run goes on from what was loaded as if nothing had been, wherever it
// was stopped.
func TestRunGoesOnFromFiles(t *testing.T) {
	source := rand.New(rand.NewSource(277))
	for range 100 {
		r, s := randomRule(source), savedOf(randomText(source, 9), randomOpt(source, 1+source.Intn(9)), randomFeed(source, 30))
		s.Opt.Count, s.Feed.Epoch = source.Intn(100), source.Intn(100)
		const steps = 12
		end, ok := trained(r, s, steps)
		if !ok || s.Opt.Count+steps != end.Opt.Count {
			t.Fatalf("the run of %v, %v doesn't come to its end", r, s)
		}
		for stop := range steps + 1 {
			ahead, _ := trained(r, s, stop)
			files := impl.Save(ahead, 1+source.Intn(testWorkers))
			if source.Intn(2) == 0 {
				files, _ = impl.Reshard(files, 1+source.Intn(testWorkers))
			}
			again, code := checkLoad(t, files)
			if code != impl.LoadOk {
				t.Fatalf("what is saved at %d is not loaded: %d", stop, code)
			}
			if got, ok := trained(r, again, steps-stop); !ok || !sameSaved(got, end) {
				t.Fatalf("stopped at %d the run ends with %v, not %v", stop, got, end)
			}
		}
		// It may be stopped at each step, too.
		now := s
		for range steps {
			now, _ = trained(r, now, 1)
			now, _ = impl.Load(impl.Save(now, 1+source.Intn(testWorkers)))
		}
		if !sameSaved(now, end) {
			t.Fatalf("stopped at each step the run ends with %v, not %v", now, end)
		}
	}
}

// The same gradients behind a restart give the same run, and the same batches
// come on any number of workers.
func TestRunOptAndBatchesBehindFiles(t *testing.T) {
	source := rand.New(rand.NewSource(278))
	for range 200 {
		r, size := randomRule(source), source.Intn(6)
		s := savedOf("", randomOpt(source, size), randomFeed(source, 40))
		s.Opt.Count, s.Feed.Epoch = source.Intn(40), source.Intn(40)
		list := randomList(source, 10, size)
		want, wanted := impl.RunOpt(r, s.Opt, list)
		for stop := range 11 {
			ahead, _ := impl.RunOpt(r, s.Opt, list[:stop])
			feed, _ := impl.Skip(s.Feed, stop)
			again, code := impl.Load(impl.Save(savedOf("", ahead, feed), 1+source.Intn(testWorkers)))
			got, done := impl.RunOpt(r, again.Opt, list[stop:])
			if code != impl.LoadOk || stop+done != wanted || !sameOpt(got, want) {
				t.Fatalf("stopped at %d the run of %v gives %v, %d, not %v, %d", stop, s.Opt, got, stop+done, want, wanted)
			}
			resized, _ := impl.Resize(again.Feed, 1+source.Intn(testWorkers))
			parts, _, ok := impl.NextBatch(resized)
			if !ok || !slices.Equal(impl.Round(parts), wantBatch(feed)) {
				t.Fatalf("behind files batch %d of %+v is %v", stop, s.Feed, parts)
			}
		}
	}
}

func scribbleFiles(files [][]byte) {
	for _, file := range files {
		for at := range file[:cap(file)] {
			file[:cap(file)][at] = 77
		}
	}
}

func TestFilesAreLeftAlone(t *testing.T) {
	source := rand.New(rand.NewSource(279))
	for range 200 {
		s, n := withRooms(randomSaved(source, 20)), 1+source.Intn(6)
		checkLeftAlone(t, "SavedOk", func() bool { return impl.SavedOk(s) }, s)
		checkLeftAlone(t, "Save", func() [][]byte { return impl.Save(s, n) }, s)
		files := impl.Save(s, n)
		if source.Intn(3) == 0 {
			files = spoiltFiles(source, files)
		}
		files = withRooms(files)
		checkLeftAlone(t, "Load", func() impl.Saved { got, _ := impl.Load(files); return got }, files)
		checkLeftAlone(t, "Reshard", func() [][]byte { got, _ := impl.Reshard(files, n); return got }, files)
		checkLeftAlone(t, "Reshard", func() [][]byte { got, _ := impl.Reshard(files, n+1); return got }, files)
	}
	// What was loaded stays when the files are written over, and the other way round.
	s := plainSaved()
	files := impl.Save(s, 3)
	again, _ := impl.Reshard(files, 3)
	got, _ := impl.Load(files)
	scribbleFiles(files)
	if !sameSaved(got, plainSaved()) || !sameFiles(again, wantSave(plainSaved(), 3)) || !sameSaved(s, plainSaved()) {
		t.Errorf("what was loaded is now %v", got)
	}
	files = impl.Save(s, 3)
	got, _ = impl.Load(files)
	for _, list := range rowsOf(got.Opt.Params, got.Opt.First, got.Opt.Second, s.Opt.Params, s.Opt.First, s.Opt.Second) {
		scribble(list)
	}
	checkLoaded(t, files, plainSaved())
	// One list may stand in several places.
	same := withRooms(ints(1, 2, 3, 4))
	s.Opt.Params, s.Opt.First, s.Opt.Second = same, same, same
	checkLeftAlone(t, "Save", func() [][]byte { return impl.Save(s, 3) }, same)
	checkLoaded(t, checkSave(t, s, 3), s)
	checkCode(t, "one file twice", [][]byte{files[0], files[0]}, impl.LoadPart)
}

func TestRoomBehindFilesIsNotRead(t *testing.T) {
	files := impl.Save(plainSaved(), 3)
	more := append(slices.Clone(files), nil, nil)[:3]
	for at, file := range files {
		more[at] = append(slices.Clone(file), 1, 2, 3, 4)[:len(file)]
	}
	checkLoaded(t, more, plainSaved())
	for number, file := range files {
		for _, length := range ints(0, 3, 4, 108, len(file)-4, len(file)-1) {
			checkCode(t, "cut, with the rest behind", withFile(files, number, file[:length]), impl.LoadForm)
		}
	}
	checkCode(t, "one too few, which stands behind", files[:2], impl.LoadPart)
	s := plainSaved()
	s.Opt = impl.Opt{Params: ints(4, 5, math.MaxInt)[:2], First: ints(6, 7, math.MaxInt)[:2], Second: ints(8, 9, -1)[:2], Factor: 1}
	if !checkSavedOk(t, s) {
		t.Error("SavedOk has read behind a list")
	}
	checkLoaded(t, checkSave(t, s, 2), s)
}

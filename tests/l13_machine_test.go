package tests

import (
	"fmt"
	"math"
	"math/rand"
	"slices"
	"strconv"
	"strings"
	"testing"

	"loop.example/g00033/impl"
)

func instrWords() []string {
	return []string{"", "rep", "end", "base", "move", "wide", "load", "store", "sum", "set", "add", "sub", "mul", "neg", "inv", "step", "relu"}
}

// instrsIn reads instructions: each its word and A, B and C, those that are
// needed.
//
//	wide 2, load 1 0 1, rep 3, add 1 1 1, end, store 1 0 1
func instrsIn(text string) []impl.Instr {
	code := []impl.Instr{}
	for _, part := range strings.Split(text, ",") {
		word, rest, _ := strings.Cut(strings.TrimSpace(part), " ")
		if word == "" {
			continue
		}
		op := slices.Index(instrWords(), word)
		if op < 0 {
			panic(word)
		}
		numbers := append(intsIn(rest), 0, 0, 0)
		code = append(code, impl.Instr{Op: op, A: numbers[0], B: numbers[1], C: numbers[2]})
	}
	return code
}

func instrsText(code []impl.Instr) string {
	parts := []string{}
	for _, i := range code {
		word := strconv.Itoa(i.Op)
		if i.Op >= 1 && i.Op <= 16 {
			word = instrWords()[i.Op]
		}
		parts = append(parts, fmt.Sprintf("%s %d %d %d", word, i.A, i.B, i.C))
	}
	if len(parts) > 300 {
		parts = append(parts[:300], fmt.Sprintf("and %d more", len(parts)-300))
	}
	return strings.Join(parts, ", ")
}

func TestInstrTexts(t *testing.T) {
	code := instrsIn("rep 3, load 1 2 -4,end, relu 63 62")
	if text := instrsText(code); text != "rep 3 0 0, load 1 2 -4, end 0 0 0, relu 63 62 0" || len(instrsIn("")) != 0 || code[1] != (impl.Instr{Op: 6, A: 1, B: 2, C: -4}) {
		t.Errorf("read back: %s", text)
	}
}

func TestMachineLimits(t *testing.T) {
	if impl.Regs != 64 || impl.Lanes != 8 || impl.Bases != 32 || impl.MaxInstrs != 60000 || impl.MaxReps != 16 || impl.MaxFuel != 10000000 {
		t.Error("the limits of chapter 13")
	}
	ops := ints(impl.MRep, impl.MEnd, impl.MBase, impl.MMove, impl.MWide, impl.MLoad, impl.MStore, impl.MSum, impl.MSet, impl.MAdd, impl.MSub, impl.MMul, impl.MNeg, impl.MInv, impl.MStep, impl.MRelu)
	for at, op := range ops {
		if op != at+1 {
			t.Errorf("Op %d of the machine is %d", at+1, op)
		}
	}
	if !slices.Equal(ints(impl.RunOk, impl.RunArgs, impl.RunPlace, impl.RunFuel), ints(0, 1, 2, 3)) {
		t.Error("the codes of RunCode")
	}
}

// A bound is from when up to when an int may be.
type bound struct{ least, most int }

// boundsOf are those of A, B and C, by the document's table.
func boundsOf(op int) []bound {
	register, address, far, nothing := bound{0, 63}, bound{0, 31}, bound{-1000000, 1000000}, bound{0, 0}
	return [][]bound{
		1: {{1, 65536}, nothing, nothing}, 2: {nothing, nothing, nothing}, 3: {address, far, nothing}, 4: {address, far, nothing}, 5: {{1, 8}, nothing, nothing},
		6: {register, address, far}, 7: {register, address, far}, 8: {register, address, far}, 9: {register, {0, 2147483646}, nothing},
		10: {register, register, register}, 11: {register, register, register}, 12: {register, register, register},
		13: {register, register, nothing}, 14: {register, register, nothing}, 15: {register, register, nothing}, 16: {register, register, nothing},
	}[op]
}

// wantCodeOk says what the document says of CodeOk.
func wantCodeOk(code []impl.Instr) bool {
	open := 0
	for _, i := range code {
		if i.Op < 1 || i.Op > 16 {
			return false
		}
		for at, x := range ints(i.A, i.B, i.C) {
			if b := boundsOf(i.Op)[at]; x < b.least || x > b.most {
				return false
			}
		}
		if i.Op == 1 {
			open++
		}
		if i.Op == 2 {
			open--
		}
		if open < 0 || open > 16 {
			return false
		}
	}
	return open == 0 && len(code) <= 60000
}

func checkCodeOk(t *testing.T, code []impl.Instr) bool {
	t.Helper()
	ok := wantCodeOk(code)
	if impl.CodeOk(code) != ok {
		t.Fatalf("CodeOk is not %v of %s", ok, instrsText(code))
	}
	if ok {
		return true
	}
	memory := ints(3, 1, 2)
	if got, done, how := impl.RunCode(code, memory, 1000); how != impl.RunArgs || done != 0 || !slices.Equal(got, memory) {
		t.Fatalf("RunCode of %s is %v, %d, %d", instrsText(code), got, done, how)
	}
	return false
}

// A wantMachine does what the document says of each instruction; how is -1 as
// long as nothing has stopped it.
type wantMachine struct {
	memory    []int
	registers [64][8]int
	addresses [32]int
	width     int
	done      int
	fuel      int
	how       int
}

// wantRunCode says what the document says of RunCode.
func wantRunCode(code []impl.Instr, memory []int, fuel int) ([]int, int, int) {
	m := &wantMachine{memory: slices.Clone(memory), width: 8, fuel: fuel, how: -1}
	noNumber := slices.ContainsFunc(memory, func(x int) bool { return x < 0 || x > 2147483646 })
	if !wantCodeOk(code) || len(memory) > 1000000 || noNumber || fuel < 0 || fuel > 10000000 {
		return m.memory, 0, 1
	}
	m.all(code)
	return m.memory, m.done, max(m.how, 0)
}

// all does instructions, and what an MRep has within it again and again.
func (m *wantMachine) all(code []impl.Instr) {
	for at := 0; at < len(code) && m.may(code[at]); at++ {
		if code[at].Op != 1 {
			m.do(code[at])
			continue
		}
		end, open := at, 1
		for open > 0 {
			end++
			switch code[end].Op {
			case 1:
				open++
			case 2:
				open--
			}
		}
		for range code[at].A {
			m.all(code[at+1 : end])
			if m.how >= 0 || !m.may(code[end]) {
				return
			}
		}
		at = end
	}
}

// may counts the instruction, if nothing stops the machine ahead of it.
func (m *wantMachine) may(i impl.Instr) bool {
	switch {
	case m.how >= 0:
	case m.done+1 > m.fuel:
		m.how = 3
	case i.Op == 4 && (m.addresses[i.A]+i.B > 1<<62 || m.addresses[i.A]+i.B < -1<<62):
		m.how = 2
	case i.Op >= 6 && i.Op <= 8 && slices.ContainsFunc(m.places(i), func(place int) bool { return place < 0 || place >= len(m.memory) }):
		m.how = 2
	default:
		m.done++
	}
	return m.how < 0
}

// places are those of the lanes, in order.
func (m *wantMachine) places(i impl.Instr) []int {
	places, place := []int{}, m.addresses[i.B]
	for range m.width {
		places = append(places, place)
		place += i.C
	}
	return places
}

func (m *wantMachine) do(i impl.Instr) {
	switch i.Op {
	case 3:
		m.addresses[i.A] = i.B
	case 4:
		m.addresses[i.A] += i.B
	case 5:
		m.width = i.A
	case 6:
		for lane, place := range m.places(i) {
			m.registers[i.A][lane] = m.memory[place]
		}
	case 7:
		for lane, place := range m.places(i) {
			m.memory[place] = m.registers[i.A][lane]
		}
	case 8:
		for lane, place := range m.places(i) {
			m.memory[place] = moduloPrime(m.memory[place] + m.registers[i.A][lane])
		}
	default:
		m.registers[i.A] = m.lanes(i)
	}
}

// lanes are what the register becomes.
func (m *wantMachine) lanes(i impl.Instr) [8]int {
	lanes := [8]int{}
	for lane := range lanes {
		switch {
		case i.Op == 9:
			lanes[lane] = i.B
		case i.Op <= 12:
			lanes[lane], _ = wantTwo(i.Op-9, m.registers[i.B][lane], m.registers[i.C][lane])
		default:
			lanes[lane], _ = wantOne(i.Op-12, m.registers[i.B][lane])
		}
	}
	return lanes
}

func checkRunCode(t *testing.T, code []impl.Instr, memory []int, fuel int) ([]int, int, int) {
	t.Helper()
	before := slices.Clone(memory)
	got, done, how := impl.RunCode(code, memory, fuel)
	want, count, end := wantRunCode(code, memory, fuel)
	if !slices.Equal(got, want) || done != count || how != end {
		t.Fatalf("RunCode of %s at %v with %d is %v, %d, %d, not %v, %d, %d", instrsText(code), memory, fuel, got, done, how, want, count, end)
	}
	if !slices.Equal(memory, before) {
		t.Fatalf("RunCode of %s has changed the memory %v", instrsText(code), before)
	}
	return got, done, how
}

// checkFuels holds P33 at the code: with just the fuel that was needed it ends the
// same, with less it stops just there, having done so many instructions. Each
// fuel below is asked where no more than 300 were needed; otherwise the first
// 300, the last one and some between.
func checkFuels(t *testing.T, source *rand.Rand, code []impl.Instr, memory []int) int {
	t.Helper()
	got, done, how := impl.RunCode(code, memory, impl.MaxFuel)
	if how == impl.RunArgs || how == impl.RunFuel {
		t.Fatalf("RunCode of %s is %d", instrsText(code), how)
	}
	just, count, end := checkRunCode(t, code, memory, done)
	// Where it stops ahead of an instruction, fuel is looked at first.
	ends := map[int]int{impl.RunOk: impl.RunOk, impl.RunPlace: impl.RunFuel}
	if !slices.Equal(just, got) || count != done || end != ends[how] {
		t.Fatalf("with just %d RunCode of %s at %v is %v, %d, %d, not %v", done, instrsText(code), memory, just, count, end, got)
	}
	more, count, end := checkRunCode(t, code, memory, done+1)
	if !slices.Equal(more, got) || count != done || end != how {
		t.Fatalf("with one more than %d RunCode of %s at %v is %v, %d, %d, not %v", done, instrsText(code), memory, more, count, end, got)
	}
	fuels := firstNumbers(min(done, 300))
	if done > 300 {
		fuels = append(fuels, done-1)
		for range 4 {
			fuels = append(fuels, source.Intn(done))
		}
	}
	for _, fuel := range fuels {
		if _, count, end := checkRunCode(t, code, memory, fuel); count != fuel || end != impl.RunFuel {
			t.Fatalf("with %d of %d RunCode of %s at %v stops behind %d with %d", fuel, done, instrsText(code), memory, count, end)
		}
	}
	return how
}

func TestCodeOkOfEachOp(t *testing.T) {
	closed := func(i impl.Instr) []impl.Instr {
		switch i.Op {
		case impl.MRep:
			return []impl.Instr{i, {Op: impl.MEnd}}
		case impl.MEnd:
			return []impl.Instr{{Op: impl.MRep, A: 1}, i}
		}
		return []impl.Instr{i}
	}
	for op := 1; op <= 16; op++ {
		bounds := boundsOf(op)
		least, most := impl.Instr{Op: op, A: bounds[0].least, B: bounds[1].least, C: bounds[2].least}, impl.Instr{Op: op, A: bounds[0].most, B: bounds[1].most, C: bounds[2].most}
		if !checkCodeOk(t, closed(least)) || !checkCodeOk(t, closed(most)) {
			t.Errorf("%v or %v is refused", least, most)
		}
		for at, b := range bounds {
			changed := func(x int) impl.Instr {
				i := least
				*[]*int{&i.A, &i.B, &i.C}[at] = x
				return i
			}
			if !checkCodeOk(t, closed(changed(b.most))) || checkCodeOk(t, closed(changed(b.least-1))) || checkCodeOk(t, closed(changed(b.most+1))) {
				t.Errorf("Op %d, number %d: the bounds %v", op, at, b)
			}
			for _, x := range slices.Concat(wrongInts(), ints(0, 1, 7, 8, 9, 31, 32, 63, 64, 65536, 65537, 1000000, 1000001, -1000000, -1000001, 2147483646, 2147483647, 1<<32+1)) {
				if ok := checkCodeOk(t, closed(changed(x))); ok != (x >= b.least && x <= b.most) {
					t.Errorf("Op %d, number %d: %d is taken: %v", op, at, x, ok)
				}
			}
		}
	}
	for _, op := range append(wrongInts(), 0, 17, 18, 1<<32+3, 255, 256) {
		for _, i := range []impl.Instr{{Op: op}, {Op: op, A: 1}, {Op: op, A: 1, B: 1, C: 1}} {
			if checkCodeOk(t, []impl.Instr{i}) || checkCodeOk(t, append(instrsIn("wide 2, rep 3, end"), i)) || checkCodeOk(t, append([]impl.Instr{i}, instrsIn("wide 2, rep 3, end")...)) {
				t.Errorf("%v is taken", i)
			}
		}
	}
}

func TestCodeOkOfReps(t *testing.T) {
	deep := func(count int) string { return strings.Repeat("rep 1,", count) + strings.Repeat("end,", count) }
	rows := []struct {
		code string
		want bool
	}{
		{"", true}, {"rep 1, end", true}, {"rep 65536, end", true}, {"rep 0, end", false}, {"rep 65537, end", false}, {"rep -1, end", false},
		// One without the other.
		{"end", false}, {"rep 1", false}, {"end, rep 1", false}, {"rep 1, end, end", false}, {"rep 1, rep 1, end", false}, {"rep 1, end, rep 1", false}, {"end, rep 1, end", false}, {"wide 1, end", false}, {"rep 2, wide 1", false}, {"rep 1, end, end, rep 1", false}, {"rep 1, end, end, rep 1, end", false},
		{"rep 2, rep 3, end, end", true}, {"rep 2, rep 3, end, rep 4, end, end", true}, {"rep 2, wide 3, end, wide 4", true},
		// One within the other.
		{deep(15), true}, {deep(16), true}, {deep(17), false}, {deep(100), false}, {deep(16) + deep(16), true}, {deep(16) + deep(17), false}, {"rep 1," + deep(15) + "end", true}, {"rep 1," + deep(16) + "end", false}, {"rep 1," + deep(15) + deep(15) + "end," + deep(16), true}, {strings.Repeat("rep 1,", 17), false}, {strings.Repeat("rep 1,", 16), false}, {strings.Repeat("rep 1,", 17) + strings.Repeat("end,", 16), false},
		// One behind the other.
		{strings.Repeat("rep 1, end,", 1000), true}, {strings.Repeat("rep 1, end,", 1000) + "end", false}, {strings.Repeat("rep 1, end,", 1000) + "rep 1", false},
	}
	for _, row := range rows {
		if got := checkCodeOk(t, instrsIn(row.code)); got != row.want {
			t.Errorf("CodeOk of %s is %v", instrsText(instrsIn(row.code)), got)
		}
	}
}

func TestCodeOkOfManyInstructions(t *testing.T) {
	if !checkCodeOk(t, nil) || !checkCodeOk(t, []impl.Instr{}) {
		t.Error("no instructions are refused")
	}
	for _, one := range []string{"wide 8", "add 63 63 63", "rep 1, end", "load 0 0 1"} {
		code := instrsIn(one)
		full := slices.Repeat(code, 60000/len(code))
		if !checkCodeOk(t, full) || !checkCodeOk(t, full[:60000-len(code)]) || checkCodeOk(t, append(full, instrsIn("wide 1")...)) || checkCodeOk(t, slices.Repeat(full, 2)) {
			t.Errorf("MaxInstrs of %s", one)
		}
		full[59999-len(code)].A = -1
		if checkCodeOk(t, full) {
			t.Errorf("a wrong one among MaxInstrs of %s", one)
		}
	}
	if _, done, how := impl.RunCode(slices.Repeat(instrsIn("wide 8"), 60000), nil, impl.MaxFuel); done != 60000 || how != impl.RunOk {
		t.Errorf("MaxInstrs: %d are done, %d", done, how)
	}
}

// A runRow has code, the memory ahead of it and at the end, how many instructions
// are done and how it ends, with fuel enough.
type runRow struct {
	code   string
	memory string
	want   string
	done   int
	how    int
}

func checkRunRows(t *testing.T, rows []runRow) {
	t.Helper()
	source := rand.New(rand.NewSource(201))
	for _, row := range rows {
		code, memory := instrsIn(row.code), intsIn(row.memory)
		got, done, how := checkRunCode(t, code, memory, impl.MaxFuel)
		if !slices.Equal(got, intsIn(row.want)) || done != row.done || how != row.how {
			t.Errorf("RunCode of %s at %s is %v, %d, %d", row.code, row.memory, got, done, how)
		}
		if how != impl.RunArgs {
			checkFuels(t, source, code, memory)
		}
	}
}

func TestRunCodeOfLanes(t *testing.T) {
	nine := "1 2 3 4 5 6 7 8 9"
	checkRunRows(t, []runRow{
		{"", nine, nine, 0, 0}, {"", "", "", 0, 0},
		// From registers and addresses 0 and the width Lanes on.
		{"store 0 0 1", nine, "0 0 0 0 0 0 0 0 9", 1, 0}, {"store 63 31 1", nine, "0 0 0 0 0 0 0 0 9", 1, 0}, {"sum 5 7 1", nine, nine, 1, 0},
		// Each way to go on for each lane.
		{"load 0 0 1, base 0 1, store 0 0 1", nine, "1 1 2 3 4 5 6 7 8", 3, 0}, {"wide 4, load 0 0 2, store 0 0 1", nine, "1 3 5 7 5 6 7 8 9", 3, 0}, {"wide 4, load 0 0 1, store 0 0 2", nine, "1 2 2 4 3 6 4 8 9", 3, 0}, {"base 0 8, load 0 0 -1, base 0 0, store 0 0 1", nine, "9 8 7 6 5 4 3 2 9", 4, 0}, {"load 0 0 1, base 0 8, store 0 0 -1", nine, "1 8 7 6 5 4 3 2 1", 3, 0}, {"wide 3, base 0 8, load 0 0 -4, base 0 0, store 0 0 1", nine, "9 5 1 4 5 6 7 8 9", 5, 0}, {"wide 2, load 0 0 8, store 0 0 1", nine, "1 9 3 4 5 6 7 8 9", 3, 0},
		// All lanes at one place: the last one stays, or all are added.
		{"load 0 0 1, base 0 8, store 0 0 0", nine, "1 2 3 4 5 6 7 8 8", 3, 0}, {"load 0 0 1, base 0 8, sum 0 0 0", nine, "1 2 3 4 5 6 7 8 45", 3, 0}, {"base 0 4, load 0 0 0, base 0 0, store 0 0 1", nine, "5 5 5 5 5 5 5 5 9", 4, 0}, {"load 0 0 1, store 0 0 0", nine, "8 2 3 4 5 6 7 8 9", 2, 0}, {"wide 1, load 0 0 0, base 0 1, sum 0 0 0", nine, "1 3 3 4 5 6 7 8 9", 4, 0}, {"set 0 2147483646, sum 0 0 0", "5", "2147483644", 2, 0}, {"set 0 2147483646, sum 0 0 0", "9", "1", 2, 0},
		// Lanes that lie over one another: loaded from, stored in and added to.
		{"load 0 0 1, base 0 1, sum 0 0 1", nine, "1 3 5 7 9 11 13 15 17", 3, 0}, {"wide 4, load 0 0 1, add 0 0 0, store 0 0 1, base 0 2, load 1 0 1, base 0 1, sum 1 0 1", nine, "2 10 14 13 11 6 7 8 9", 8, 0},
		// Each width.
		{"wide 1, load 0 0 1, base 0 1, store 0 0 1", nine, "1 1 3 4 5 6 7 8 9", 4, 0}, {"wide 2, load 0 0 1, base 0 1, store 0 0 1", nine, "1 1 2 4 5 6 7 8 9", 4, 0}, {"wide 3, load 0 0 1, base 0 1, store 0 0 1", nine, "1 1 2 3 5 6 7 8 9", 4, 0}, {"wide 5, load 0 0 1, base 0 1, store 0 0 1", nine, "1 1 2 3 4 5 7 8 9", 4, 0}, {"wide 7, load 0 0 1, base 0 1, store 0 0 1", nine, "1 1 2 3 4 5 6 7 9", 4, 0}, {"wide 8, load 0 0 1, base 0 1, store 0 0 1", nine, "1 1 2 3 4 5 6 7 8", 4, 0}, {"wide 6, sum 0 0 1, set 0 1, wide 3, sum 0 0 1, wide 2, sum 0 0 1", nine, "3 4 4 4 5 6 7 8 9", 7, 0},
		// Lanes above the width stay as they are at MLoad, and MStore and MSum leave what is there.
		{"load 0 0 1, wide 2, base 0 7, load 0 0 1, wide 8, base 0 0, store 0 0 1", nine, "8 9 3 4 5 6 7 8 9", 7, 0}, {"set 3 50, wide 1, load 3 0 1, wide 8, store 3 0 1", nine, "1 50 50 50 50 50 50 50 9", 5, 0}, {"set 3 50, wide 3, store 3 0 1", nine, "50 50 50 4 5 6 7 8 9", 3, 0}, {"set 3 50, wide 3, sum 3 0 2", nine, "51 2 53 4 55 6 7 8 9", 3, 0},
		// One register, one address, is not another.
		{"set 0 10, set 1 11, set 63 63, wide 1, base 31 2, base 1 1, store 0 0 0, store 1 1 0, store 63 31 0", "0 0 0 0", "10 11 63 0", 9, 0}, {"base 1 1, base 2 2, move 1 2, move 2 -2, wide 1, set 0 8, set 1 9, store 0 1 0, store 1 2 0", "0 0 0 0", "9 0 0 8", 9, 0},
		// What an address was is forgotten at MBase, and grows at MMove.
		{"base 0 3, base 0 1, wide 1, set 0 9, store 0 0 1", "0 0 0 0", "0 9 0 0", 5, 0}, {"base 0 1, move 0 2, wide 1, set 0 9, store 0 0 1", "0 0 0 0", "0 0 0 9", 5, 0}, {"move 0 2, move 0 -1, move 0 0, wide 1, set 0 9, store 0 0 1", "0 0 0 0", "0 9 0 0", 6, 0}, {"base 0 -1000000, move 0 1000000, wide 1, set 0 9, store 0 0 1", "0 0 0 0", "9 0 0 0", 5, 0}, {"base 0 1000000, move 0 1000000, move 0 -1000000, move 0 -999999, wide 1, set 0 9, store 0 0 1", "0 0 0 0", "0 9 0 0", 7, 0},
	})
}

func TestRunCodeOfReckoning(t *testing.T) {
	edges := "0 1 2 1073741822 1073741823 1073741824 2147483645 2147483646"
	two := "0 1 2147483646 5 2147483646 1073741824 0 7 0 2147483646 2147483646 3 1 2 9 7"
	load := "load 0 0 1, base 1 8, load 1 1 1, "
	tail := " 0 2147483646 2147483646 3 1 2 9 7"
	checkRunRows(t, []runRow{
		{"load 0 0 1, neg 1 0, store 1 0 1", edges, "0 2147483646 2147483645 1073741825 1073741824 1073741823 2 1", 3, 0}, {"load 0 0 1, step 1 0, store 1 0 1", edges, "0 1 1 1 1 0 0 0", 3, 0}, {"load 0 0 1, relu 1 0, store 1 0 1", edges, "0 1 2 1073741822 1073741823 0 0 0", 3, 0}, {"load 0 0 1, inv 1 0, store 1 0 1", edges, "0 1 1073741824 1431655764 2147483645 2 1073741823 2147483646", 3, 0},
		{load + "add 2 0 1, store 2 0 1", two, "0 0 2147483645 8 0 1073741826 9 14" + tail, 5, 0}, {load + "sub 2 0 1, store 2 0 1", two, "0 2 0 2 2147483645 1073741822 2147483638 0" + tail, 5, 0}, {load + "sub 2 1 0, store 2 0 1", two, "0 2147483645 0 2147483645 2 1073741825 9 0" + tail, 5, 0}, {load + "mul 2 0 1, store 2 0 1", two, "0 2147483646 1 15 2147483646 1 0 49" + tail, 5, 0},
		// One register as A, B and C at once, as two of them, and A that is neither.
		{load + "add 0 0 0, store 0 0 1", two, "0 2 2147483645 10 2147483645 1 0 14" + tail, 5, 0}, {load + "sub 0 0 0, store 0 0 1", two, "0 0 0 0 0 0 0 0" + tail, 5, 0}, {load + "mul 0 0 0, store 0 0 1", two, "0 1 1 25 1 536870912 0 49" + tail, 5, 0}, {load + "sub 1 0 1, store 1 0 1", two, "0 2 0 2 2147483645 1073741822 2147483638 0" + tail, 5, 0}, {load + "sub 0 0 1, store 0 0 1", two, "0 2 0 2 2147483645 1073741822 2147483638 0" + tail, 5, 0}, {load + "sub 1 1 0, store 1 0 1", two, "0 2147483645 0 2147483645 2 1073741825 9 0" + tail, 5, 0}, {"load 0 0 1, neg 0 0, store 0 0 1", edges, "0 2147483646 2147483645 1073741825 1073741824 1073741823 2 1", 3, 0},
		{load + "add 2 0 1, store 0 0 1, store 1 1 1", two, two, 6, 0}, {"load 0 0 1, neg 63 0, store 0 0 1", edges, edges, 3, 0},
		// On all lanes, whatever the width is.
		{"load 0 0 1, wide 1, neg 1 0, wide 8, store 1 0 1", edges, "0 2147483646 2147483645 1073741825 1073741824 1073741823 2 1", 5, 0}, {"load 0 0 1, wide 3, step 0 0, wide 8, store 0 0 1", edges, "0 1 1 1 1 0 0 0", 5, 0}, {"load 0 0 1, wide 1, relu 0 0, inv 0 0, wide 8, store 0 0 1", edges, "0 1 1073741824 1431655764 2147483645 0 0 0", 6, 0}, {"wide 1, set 0 6, wide 8, store 0 0 1", edges, "6 6 6 6 6 6 6 6", 4, 0}, {load + "wide 2, add 0 0 1, sub 1 0 1, mul 0 0 0, wide 8, store 1 1 1", two, "0 1 2147483646 5 2147483646 1073741824 0 7 0 1 2147483646 5 2147483646 1073741824 0 7", 9, 0},
		{"set 0 0, store 0 0 1", edges, "0 0 0 0 0 0 0 0", 2, 0}, {"set 0 2147483646, store 0 0 1", edges, "2147483646 2147483646 2147483646 2147483646 2147483646 2147483646 2147483646 2147483646", 2, 0}, {"set 0 5, set 0 4, wide 1, store 0 0 1", "1 2", "4 2", 4, 0},
		{"set 0 3, inv 1 0, mul 2 0 1, wide 3, store 2 0 1", "7 7 7", "1 1 1", 5, 0}, {"inv 1 0, wide 1, store 1 0 1", "7", "0", 3, 0},
	})
}

func TestRunCodeOfReps(t *testing.T) {
	one := "wide 1, set 0 1, "
	checkRunRows(t, []runRow{
		{"rep 1, end", "5", "5", 2, 0}, {"rep 7, end", "5", "5", 8, 0}, {"rep 65536, end", "5", "5", 65537, 0}, {"rep 3, rep 2, end, end", "", "", 13, 0}, {"rep 1, rep 1, rep 1, end, end, end", "", "", 6, 0},
		{one + "rep 1, sum 0 0 1, end", "5", "6", 5, 0}, {one + "rep 4, sum 0 0 1, end", "5", "9", 11, 0}, {one + "rep 65536, sum 0 0 1, end", "5", "65541", 131075, 0}, {one + "rep 4, sum 0 0 1, end, sum 0 0 1", "5", "10", 12, 0}, {one + "sum 0 0 1, rep 4, sum 0 0 1, end", "5", "10", 12, 0},
		// One within another, one behind another.
		{one + "rep 3, rep 4, sum 0 0 1, end, end", "0", "12", 33, 0}, {one + "rep 3, sum 0 0 1, rep 4, sum 0 0 1, end, end", "0", "15", 36, 0}, {one + "rep 3, rep 4, sum 0 0 1, end, sum 0 0 1, end", "0", "15", 36, 0}, {one + "rep 3, rep 4, sum 0 0 1, end, rep 2, sum 0 0 1, end, end", "0", "18", 48, 0}, {one + "rep 3, sum 0 0 1, end, rep 4, sum 0 0 1, end", "0", "7", 18, 0}, {one + "rep 2, rep 2, rep 2, rep 2, rep 2, sum 0 0 1, end, end, end, end, end", "0", "32", 127, 0},
		{one + "rep 2, rep 3, end, sum 0 0 1, end", "0", "2", 15, 0}, {strings.Repeat("rep 1,", 16) + "wide 3," + strings.Repeat("end,", 16), "", "", 33, 0}, {one + strings.Repeat("rep 2,", 10) + "sum 0 0 1," + strings.Repeat("end,", 10), "0", "1024", 2 + 1023 + 1024 + 2046, 0},
		// What was done stays from one time to the next: addresses, widths, registers.
		{one + "rep 4, sum 0 0 1, move 0 1, end", "5 5 5 5 5", "6 6 6 6 5", 15, 0}, {one + "rep 4, sum 0 0 1, add 0 0 0, move 0 1, end", "5 5 5 5 5", "6 7 9 13 5", 19, 0}, {"set 0 1, rep 2, sum 0 0 1, wide 2, end", "0 0 0 0 0 0 0 0", "2 2 1 1 1 1 1 1", 8, 0}, {one + "rep 3, rep 2, sum 0 0 1, move 0 1, end, move 0 -1, end", "0 0 0 0", "1 2 2 1", 2 + 1 + 3*(1+2*3+2), 0}, {one + "rep 2, base 0 1, sum 0 0 1, move 0 1, sum 0 0 1, end", "0 0 0", "0 2 2", 13, 0},
		// A place that is left when it is done again.
		{one + "rep 4, sum 0 0 1, move 0 1, end", "5 5 5", "6 6 6", 12, 2}, {one + "rep 4, sum 0 0 1, move 0 -1, end", "5 5 5", "6 5 5", 6, 2}, {one + "rep 2, rep 2, sum 0 0 1, move 0 1, end, end", "5 5 5", "6 6 6", 15, 2},
	})
}

func TestRunCodeOfPlaces(t *testing.T) {
	eight := "1 2 3 4 5 6 7 8"
	rows := []runRow{
		// No memory at all.
		{"load 0 0 1", "", "", 0, 2}, {"wide 1, store 0 0 0", "", "", 1, 2}, {"wide 1, sum 0 0 0", "", "", 1, 2}, {"wide 1, load 0 0 0", "", "", 1, 2}, {"set 0 1, add 0 0 0, rep 2, move 0 5, end", "", "", 7, 0},
		// What was done ahead of it stays.
		{"set 0 9, store 0 0 1, base 0 1, store 0 0 1, set 1 8, store 1 0 1", eight, "9 9 9 9 9 9 9 9", 3, 2}, {"set 0 9, base 0 1, sum 0 0 1", eight, eight, 2, 2}, {"set 0 9, wide 3, sum 0 0 1, base 0 6, sum 0 0 1", eight, "10 11 12 4 5 6 7 8", 4, 2},
	}
	// Just at the first and the last number, and one beyond either: of all lanes, of the last or the first one alone.
	for _, row := range []struct {
		width, base, step int
		want              string
	}{
		{8, 0, 1, "9 9 9 9 9 9 9 9"}, {8, 1, 1, ""}, {8, -1, 1, ""}, {8, 7, -1, "9 9 9 9 9 9 9 9"}, {8, 6, -1, ""}, {8, 8, -1, ""}, {7, 1, 1, "1 9 9 9 9 9 9 9"}, {7, 2, 1, ""}, {7, 7, -1, "1 9 9 9 9 9 9 9"}, {7, 6, -1, "9 9 9 9 9 9 9 8"}, {7, 5, -1, ""},
		{1, 0, 0, "9 2 3 4 5 6 7 8"}, {1, 7, 0, "1 2 3 4 5 6 7 9"}, {1, 8, 0, ""}, {1, -1, 0, ""}, {8, 7, 0, "1 2 3 4 5 6 7 9"}, {8, 8, 0, ""}, {8, -1, 0, ""}, {8, 0, 0, "9 2 3 4 5 6 7 8"},
		{2, 0, 7, "9 2 3 4 5 6 7 9"}, {2, 0, 8, ""}, {2, 1, 7, ""}, {2, 7, -7, "9 2 3 4 5 6 7 9"}, {2, 7, -8, ""}, {2, 6, -7, ""}, {4, 0, 2, "9 2 9 4 9 6 9 8"}, {4, 1, 2, "1 9 3 9 5 9 7 9"}, {4, 2, 2, ""}, {5, 0, 2, ""}, {3, 0, 3, "9 2 3 9 5 6 9 8"}, {3, 1, 3, "1 9 3 4 9 6 7 9"}, {3, 2, 3, ""}, {3, -1, 3, ""}, {3, -3, 3, ""},
		// Lanes above the width whose places would be out; steps so great that the first lane alone is in.
		{1, 7, 1, "1 2 3 4 5 6 7 9"}, {1, 0, -1, "9 2 3 4 5 6 7 8"}, {1, 3, 1000000, "1 2 3 9 5 6 7 8"}, {1, 3, -1000000, "1 2 3 9 5 6 7 8"}, {2, 3, 1000000, ""}, {2, 3, -1000000, ""}, {2, -1000000, 1000000, ""}, {2, 1000000, -1000000, ""}, {3, -1000000, 1000000, ""}, {6, 2, 1, "1 2 9 9 9 9 9 9"}, {6, 3, 1, ""},
	} {
		head := fmt.Sprintf("wide %d, base 3 %d, ", row.width, row.base)
		access := fmt.Sprintf(" 5 3 %d", row.step)
		if row.want == "" {
			rows = append(rows, runRow{head + "set 5 9, store" + access, eight, eight, 3, 2}, runRow{head + "set 5 9, sum" + access, eight, eight, 3, 2}, runRow{head + "load" + access, eight, eight, 2, 2})
			continue
		}
		rows = append(rows, runRow{head + "set 5 9, store" + access, eight, row.want, 4, 0}, runRow{head + "load" + access, eight, eight, 3, 0})
	}
	checkRunRows(t, rows)
}

// As far as the fuel goes, an address stays within its bounds: nothing stops it.
func TestRunCodeOfFarAddresses(t *testing.T) {
	for _, by := range ints(1000000, -1000000) {
		far := instrsIn(fmt.Sprintf("rep 65536, rep 75, move 0 %d, end, end", by))
		if _, done, how := impl.RunCode(far, ints(1), impl.MaxFuel); done != 1+65536*152 || how != impl.RunOk {
			t.Errorf("by %d: %d are done, %d", by, done, how)
		}
		if _, done, how := impl.RunCode(append(far, instrsIn("wide 1, load 0 0 0")...), ints(1), impl.MaxFuel); done != 2+65536*152 || how != impl.RunPlace {
			t.Errorf("by %d, and loaded: %d are done, %d", by, done, how)
		}
		back := append(instrsIn(fmt.Sprintf("rep 65536, rep 30, move 0 %d, end, end", by)), instrsIn(fmt.Sprintf("rep 65536, rep 30, move 0 %d, end, end, set 0 7, wide 1, sum 0 0 0", -by))...)
		if got, done, how := impl.RunCode(back, ints(1), impl.MaxFuel); done != 5+2*65536*62 || how != impl.RunOk || !slices.Equal(got, ints(8)) {
			t.Errorf("by %d and back: %v, %d are done, %d", by, got, done, how)
		}
	}
}

// Fuel is looked at ahead of the place.
func TestRunCodeOfFuelAndPlace(t *testing.T) {
	for _, row := range []struct {
		code string
		fuel int
		done int
		how  int
	}{
		{"", 0, 0, 0}, {"", 1, 0, 0}, {"", 10000000, 0, 0}, {"wide 1", 0, 0, 3}, {"wide 1", 1, 1, 0}, {"wide 1", 2, 1, 0},
		{"load 0 0 1", 0, 0, 3}, {"load 0 0 1", 1, 0, 2}, {"load 0 0 1", 10000000, 0, 2}, {"wide 4, load 0 0 1", 0, 0, 3}, {"wide 4, load 0 0 1", 1, 1, 3}, {"wide 4, load 0 0 1", 2, 1, 2}, {"wide 3, load 0 0 1", 1, 1, 3}, {"wide 3, load 0 0 1", 2, 2, 0}, {"wide 3, load 0 0 1, sum 0 0 2", 2, 2, 3}, {"wide 3, load 0 0 1, sum 0 0 2", 3, 2, 2},
		{"rep 1, end", 0, 0, 3}, {"rep 1, end", 1, 1, 3}, {"rep 1, end", 2, 2, 0}, {"rep 2, end", 2, 2, 3}, {"rep 2, end", 3, 3, 0}, {"rep 2, rep 2, end, end", 8, 8, 3}, {"rep 2, rep 2, end, end", 9, 9, 0}, {"rep 2, rep 2, end, end, wide 1", 9, 9, 3}, {"rep 65536, rep 65536, end, end", 10000000, 10000000, 3}, {"rep 65536, rep 65536, end, end", 9999999, 9999999, 3},
		{"rep 65536, wide 1, end", 131073, 131073, 0}, {"rep 65536, wide 1, end", 131072, 131072, 3}, {"rep 65536, wide 1, end", 131071, 131071, 3}, {"rep 2, load 0 0 1, end", 1, 1, 3}, {"rep 2, load 0 0 1, end", 2, 1, 2},
	} {
		if _, done, how := impl.RunCode(instrsIn(row.code), ints(1, 2, 3), row.fuel); done != row.done || how != row.how {
			t.Errorf("%s with %d: %d are done, %d", row.code, row.fuel, done, how)
		}
		if row.fuel < 1000000 {
			checkRunCode(t, instrsIn(row.code), ints(1, 2, 3), row.fuel)
		}
	}
}

func TestRunCodeOfWrongArgs(t *testing.T) {
	good, memory := instrsIn("wide 2, set 0 9, store 0 0 1"), ints(1, 2, 3)
	if got, done, how := checkRunCode(t, good, memory, 3); how != impl.RunOk || done != 3 || !slices.Equal(got, ints(9, 9, 3)) {
		t.Errorf("RunCode is %v, %d, %d", got, done, how)
	}
	checkWrong := func(code []impl.Instr, memory []int, fuel int) {
		t.Helper()
		if got, done, how := checkRunCode(t, code, memory, fuel); how != impl.RunArgs || done != 0 || !slices.Equal(got, memory) {
			t.Errorf("RunCode of %s with %d is %d, %d", instrsText(code), fuel, done, how)
		}
	}
	for _, fuel := range ints(-1, -2, 10000001, 1<<32, math.MinInt, math.MaxInt) {
		checkWrong(good, memory, fuel)
		checkWrong(nil, memory, fuel)
		checkWrong(nil, nil, fuel)
	}
	for _, x := range ints(-1, impl.Prime, impl.Prime+1, math.MinInt, math.MaxInt) {
		for at := range 3 {
			checkWrong(good, replaced(memory, at, x), 3)
			checkWrong(nil, replaced(memory, at, x), 0)
			checkWrong(good, replaced(memory, at, x), -1)
		}
	}
	for _, code := range []string{"end", "rep 1", "wide 9", "wide 2, set 0 9, store 0 0 1, wide 0", "set 0 -1", "neg 0 0 1", "load 64 0 0"} {
		checkWrong(instrsIn(code), memory, 3)
		checkWrong(instrsIn(code), memory, -3)
		checkWrong(instrsIn(code), nil, 3)
	}
	checkWrong([]impl.Instr{{}}, memory, 3)
	for _, number := range ints(0, 1, impl.Prime-1) {
		if got, _, how := checkRunCode(t, instrsIn("neg 0 0"), ints(number, 0, number), 1); how != impl.RunOk || !slices.Equal(got, ints(number, 0, number)) {
			t.Errorf("with %d in memory it ends with %d", number, how)
		}
	}
}

func TestRunCodeOfMuchMemory(t *testing.T) {
	memory := slices.Repeat(ints(5), 1000001)
	code := instrsIn("set 0 9, base 0 999993, store 0 0 1, base 0 999999, wide 1, sum 0 0 1")
	if got, done, how := impl.RunCode(code, memory[:1000000], 6); done != 2 || how != impl.RunPlace || !slices.Equal(got, memory[:1000000]) {
		t.Errorf("one past the end: %d, %d", done, how)
	}
	code[1].B = 999992
	got, done, how := impl.RunCode(code, memory[:1000000], 6)
	if how != impl.RunOk || done != 6 || len(got) != 1000000 || got[999999] != 18 || got[999992] != 9 || got[999991] != 5 {
		t.Errorf("MaxArena numbers: %d, %d", done, how)
	}
	got, done, how = impl.RunCode(code, memory, 6)
	if how != impl.RunArgs || done != 0 || !slices.Equal(got, memory) {
		t.Errorf("one more than MaxArena numbers: %d, %d", done, how)
	}
	memory[999999] = impl.Prime
	if _, _, how := impl.RunCode(code, memory[:1000000], 6); how != impl.RunArgs {
		t.Errorf("with what is no number: %d", how)
	}
	if _, _, how := impl.RunCode(code, memory[:999999], 6); how != impl.RunPlace {
		t.Errorf("one fewer than MaxArena numbers: %d", how)
	}
}

// A codeMaker makes code that is CodeOk, of which the lanes are often in the
// memory.
type codeMaker struct {
	source *rand.Rand
	size   int
	code   []impl.Instr
}

// some puts some instructions; deep says how many reps may be one within the
// other.
func (m *codeMaker) some(most int, deep int) {
	for range 1 + m.source.Intn(most) {
		i := impl.Instr{Op: 1 + m.source.Intn(16), A: m.source.Intn(4), B: m.source.Intn(4), C: m.source.Intn(4)}
		switch {
		case i.Op <= 2:
			if deep > 0 {
				m.code = append(m.code, impl.Instr{Op: 1, A: 1 + m.source.Intn(4)})
				if m.source.Intn(6) > 0 {
					m.some(4, deep-1)
				}
				m.code = append(m.code, impl.Instr{Op: 2})
			}
			continue
		case i.Op == 3:
			i.B, i.C = m.source.Intn(m.size+1), 0
		case i.Op == 4:
			i.B, i.C = m.source.Intn(5)-2, 0
		case i.Op == 5:
			i = impl.Instr{Op: 5, A: 1 + m.source.Intn(8)}
		case i.Op <= 8:
			i.C = m.source.Intn(5) - 1
		case i.Op == 9:
			i.B, i.C = randomNumber(m.source), 0
		case i.Op >= 13:
			i.C = 0
		}
		m.code = append(m.code, i)
	}
}

func randomCode(source *rand.Rand, size int) []impl.Instr {
	m := &codeMaker{source: source, size: size}
	if source.Intn(3) > 0 {
		m.code = append(m.code, impl.Instr{Op: impl.MWide, A: 1 + source.Intn(3)})
	}
	m.some(16, 3)
	return m.code
}

func randomNumbers(source *rand.Rand, count int) []int {
	numbers := []int{}
	for range count {
		numbers = append(numbers, randomNumber(source))
	}
	return numbers
}

// P33 at code of all kinds.
func TestRunCodeOfRandomCode(t *testing.T) {
	source := rand.New(rand.NewSource(202))
	ends := map[int]int{}
	for range 4000 {
		memory := randomNumbers(source, source.Intn(24))
		code := randomCode(source, len(memory))
		if !checkCodeOk(t, code) {
			t.Fatalf("refused: %s", instrsText(code))
		}
		ends[checkFuels(t, source, code, memory)]++
	}
	if ends[impl.RunOk] < 700 || ends[impl.RunPlace] < 700 {
		t.Errorf("how they end: %v", ends)
	}
}

func TestCodeOkOfSpoiltCode(t *testing.T) {
	source := rand.New(rand.NewSource(203))
	good, wrong := 0, 0
	for range 6000 {
		memory := randomNumbers(source, source.Intn(24))
		code := randomCode(source, len(memory))
		i := &code[source.Intn(len(code))]
		number := []*int{&i.Op, &i.A, &i.B, &i.C}[source.Intn(4)]
		if source.Intn(2) == 0 {
			*number += source.Intn(5) - 2
		} else {
			others := append(wrongInts(), 0, 16, 17, 31, 32, 63, 64, impl.Prime)
			*number = others[source.Intn(len(others))]
		}
		if !checkCodeOk(t, code) {
			wrong++
			continue
		}
		good++
		checkRunCode(t, code, memory, 3000)
	}
	if good < 1000 || wrong < 1000 {
		t.Errorf("%d are taken, %d refused", good, wrong)
	}
}

// wantChunks says what the document says of chunks; the steps are those of the
// addresses told.
func wantChunks(n int, body []impl.Instr, steps []int) []impl.Instr {
	code, q, r := []impl.Instr{}, 0, n
	for r >= 8 {
		q, r = q+1, r-8
	}
	if q > 0 {
		code = append(code, instrsIn("wide 8")...)
	}
	if q > 1 {
		code = append(code, impl.Instr{Op: 1, A: q})
	}
	if q > 0 {
		code = append(code, body...)
		for address, step := range steps {
			code = append(code, impl.Instr{Op: 4, A: address, B: 8 * step})
		}
	}
	if q > 1 {
		code = append(code, instrsIn("end")...)
	}
	if r > 0 {
		code = append(append(code, impl.Instr{Op: 5, A: r}), body...)
	}
	return code
}

// wantKernelCode says what the document says of the code of a kernel; MMoves by 0
// still stand in it.
func wantKernelCode(k impl.Kernel, offsets []int) []impl.Instr {
	code, accesses := []impl.Instr{}, append(slices.Clone(k.Loads), k.Store)
	outer, n, lasts := k.Loops, 1, noughts(len(accesses))
	if len(k.Loops) > 0 {
		outer, n = k.Loops[:len(k.Loops)-1], k.Loops[len(k.Loops)-1]
	}
	for a, access := range accesses {
		code = append(code, impl.Instr{Op: 3, A: a, B: offsets[access.Buffer] + access.Offset})
		if len(k.Loops) > 0 {
			lasts[a] = access.Steps[len(outer)]
		}
	}
	for _, length := range outer {
		code = append(code, impl.Instr{Op: 1, A: length})
	}
	body := []impl.Instr{}
	for i, c := range k.Code {
		switch c.Op {
		case 1:
			body = append(body, impl.Instr{Op: 6, A: i, B: c.A, C: lasts[c.A]})
		case 2:
			body = append(body, impl.Instr{Op: 9, A: i, B: c.A})
		default:
			body = append(body, impl.Instr{Op: ints(0, 0, 0, 10, 11, 12, 13, 14, 15, 16)[c.Op], A: i, B: c.A, C: c.B})
		}
	}
	put := impl.Instr{Op: 7, A: len(k.Code) - 1, B: len(k.Loads), C: lasts[len(k.Loads)]}
	if k.Sum {
		put.Op = 8
	}
	code = append(code, wantChunks(n, append(body, put), lasts)...)
	for a := range accesses {
		code = append(code, impl.Instr{Op: 4, A: a, B: -8 * (n / 8) * lasts[a]})
	}
	for loop := len(outer) - 1; loop >= 0; loop-- {
		for a, access := range accesses {
			code = append(code, impl.Instr{Op: 4, A: a, B: access.Steps[loop]})
		}
		code = append(code, impl.Instr{Op: 2})
		for a, access := range accesses {
			code = append(code, impl.Instr{Op: 4, A: a, B: -outer[loop] * access.Steps[loop]})
		}
	}
	return code
}

// wantCompile says what the document says of Compile.
func wantCompile(p impl.Plan) ([]impl.Instr, bool) {
	if !wantPlanOk(p) {
		return nil, false
	}
	code := []impl.Instr{}
	for number := 0; number == 0 || number < len(p.Nest.Kernels); number++ {
		for _, life := range wantLives(p.Nest) {
			if life.From == number && !isGiven(p.Nest, life.Buffer) {
				code = append(code, impl.Instr{Op: 3, B: p.Offsets[life.Buffer]}, impl.Instr{Op: 9})
				code = append(code, wantChunks(life.Size, instrsIn("store 0 0 1"), ints(1))...)
			}
		}
		if number < len(p.Nest.Kernels) {
			code = append(code, wantKernelCode(p.Nest.Kernels[number], p.Offsets)...)
		}
	}
	code = slices.DeleteFunc(code, func(i impl.Instr) bool { return i.Op == 4 && i.B == 0 })
	if len(code) > 60000 {
		return nil, false
	}
	return code, true
}

// wantArena is the memory ahead of the code.
func wantArena(p impl.Plan, ins [][]int) []int {
	arena := slices.Repeat(ints(7), p.Arena)
	for at, b := range p.Nest.Ins {
		if len(ins[at]) > 0 {
			copy(arena[p.Offsets[b]:], ins[at])
		}
	}
	for _, f := range p.Nest.Fixed {
		if len(f.Data) > 0 {
			copy(arena[p.Offsets[f.Buffer]:], f.Data)
		}
	}
	return arena
}

// checkCompile holds Compile against the words: each instruction in its place.
func checkCompile(t *testing.T, p impl.Plan) ([]impl.Instr, bool) {
	t.Helper()
	code, ok := impl.Compile(p)
	want, there := wantCompile(p)
	if ok != there || !slices.Equal(code, want) {
		t.Fatalf("Compile of\n%sis %v\n%s\nnot %v\n%s", planText(p), ok, instrsText(code), there, instrsText(want))
	}
	if ok && !checkCodeOk(t, code) {
		t.Fatalf("what was compiled is not CodeOk: %s", instrsText(code))
	}
	return code, ok
}

// checkCompiled holds Compile and RunCompiled against the words, and P32: the
// code gives what the plan and the nest give. Its code does not need more than
// MaxFuel.
func checkCompiled(t *testing.T, p impl.Plan, ins [][]int) [][]int {
	t.Helper()
	_, ok := checkCompile(t, p)
	got, want := impl.RunCompiled(p, ins), [][]int{}
	if ok && insFit(p.Nest, ins) {
		want = wantRunPlan(p, ins)
	}
	if !sameLists(got, want) {
		t.Fatalf("RunCompiled of\n%sat %v is %v, not %v", planText(p), ins, got, want)
	}
	if nest := impl.RunNest(p.Nest, ins); ok && !sameLists(got, nest) {
		t.Fatalf("RunCompiled of\n%sat %v is %v, RunNest %v", planText(p), ins, got, nest)
	}
	return got
}

// checkFuelsOfPlan holds P33 at the code of a plan.
func checkFuelsOfPlan(t *testing.T, source *rand.Rand, p impl.Plan, ins [][]int) {
	t.Helper()
	code, _ := impl.Compile(p)
	if how := checkFuels(t, source, code, wantArena(p, ins)); how != impl.RunOk {
		t.Fatalf("the code of\n%sends with %d", planText(p), how)
	}
}

// turnedBack is a nest of which some accesses go backwards along some loops.
func turnedBack(source *rand.Rand, l impl.Nest) impl.Nest {
	l = copiedNest(l)
	for at := range l.Kernels {
		k := &l.Kernels[at]
		accesses := []*impl.Access{&k.Store}
		for i := range k.Loads {
			accesses = append(accesses, &k.Loads[i])
		}
		for _, a := range accesses {
			for loop, length := range k.Loops {
				if source.Intn(4) == 0 {
					a.Offset += (length - 1) * a.Steps[loop]
					a.Steps[loop] *= -1
				}
			}
		}
	}
	return l
}

// wideNests have loops about as long as there are lanes, and twice and three
// times as long.
func wideNests(count int, seed int64) []impl.Nest {
	source := rand.New(rand.NewSource(seed))
	shapes := [][]int{{}, {1}, {7}, {8}, {9}, {15}, {16}, {17}, {23}, {24}, {25}, {31}, {2, 8}, {3, 9}, {8, 3}, {9, 2}, {2, 16}, {2, 17}, {1, 8}, {8, 1}, {16, 1}, {2, 2, 9}, {2, 1, 16}, {3, 7}, {2, 2, 2, 8}, {2, 3, 2}}
	nests := []impl.Nest{}
	for range count {
		nests = append(nests, turnedBack(source, withIdle(source, nestOver(source, shapes))))
	}
	return nests
}

// P32 and P33 at nests of all kinds, and with buffers that lie anywhere.
func TestCompiledGivesWhatPlansGive(t *testing.T) {
	source := rand.New(rand.NewSource(204))
	reps, cut, fuels := 0, 0, 0
	for at, l := range slices.Concat(someNests(500, 205), idleNests(500, 206), wideNests(1200, 207)) {
		p, ok := impl.MakePlan(l)
		if !ok {
			t.Fatalf("no plan of\n%s", nestText(l))
		}
		checkCompiled(t, p, insFor(source, l))
		other := otherPlan(source, p)
		checkCompiled(t, other, insFor(source, l))
		code, _ := impl.Compile(other)
		if slices.ContainsFunc(code, func(i impl.Instr) bool { return i.Op == impl.MRep }) {
			reps++
		}
		if slices.ContainsFunc(l.Kernels, func(k impl.Kernel) bool { return len(k.Loops) > 0 && k.Loops[len(k.Loops)-1] > 8 }) {
			cut++
		}
		if at%7 == 0 {
			checkFuelsOfPlan(t, source, other, insFor(source, l))
			fuels++
		}
	}
	if reps < 1000 || cut < 500 || fuels < 200 {
		t.Errorf("%d have reps, %d a loop longer than the lanes, %d were run with less fuel", reps, cut, fuels)
	}
}

// P32 at graphs: their nests, and these fused, cut and reordered.
func TestCompiledGivesWhatGraphsGive(t *testing.T) {
	source := rand.New(rand.NewSource(208))
	count, fused, changed := 0, 0, 0
	for _, g := range slices.Concat(goodGraphs(), slopeGraphs(), someGraphs(150, 209), gradGraphs(20, 210)) {
		l, ok := impl.Lower(g)
		if !ok || len(g.Nodes) > 60 {
			continue
		}
		nests := []impl.Nest{l, impl.Fuse(l)}
		for _, made := range nests[:2] {
			cut := copiedNest(made)
			for at, k := range cut.Kernels {
				if k.Sum || !meetsTwice(k) {
					times := 0
					cut.Kernels[at], times = mixed(t, source, k)
					changed += times
				}
			}
			nests = append(nests, cut)
		}
		inputs := inputsFor(source, g)
		outs := dataOf(impl.Eval(g, inputs))
		for _, made := range nests {
			p, _ := impl.MakePlan(made)
			if _, done, how := runPlanCode(p, dataOf(inputs), impl.MaxFuel); how != impl.RunOk {
				t.Fatalf("the code of\n%sends with %d behind %d", planText(p), how, done)
			}
			if got := impl.RunCompiled(p, dataOf(inputs)); !sameLists(got, outs) {
				t.Fatalf("compiled,\n%sgives %v, not %v:\n%s", wantText(g), got, outs, planText(p))
			}
			checkCompiled(t, otherPlan(source, p), dataOf(inputs))
		}
		count++
		if len(nests[1].Kernels) < len(l.Kernels) {
			fused++
		}
	}
	if count < 300 || fused < 50 || changed < 1000 {
		t.Errorf("%d graphs, %d fused, %d times cut or reordered", count, fused, changed)
	}
}

func runPlanCode(p impl.Plan, ins [][]int, fuel int) ([]int, int, int) {
	code, _ := impl.Compile(p)
	return impl.RunCode(code, wantArena(p, ins), fuel)
}

// P32 at models of which the loops are long.
func TestCompiledGivesWhatModelsGive(t *testing.T) {
	source := rand.New(rand.NewSource(211))
	for _, src := range []string{
		"in x [17]\nout x", "in x [17]\nout sum(x)", "in x [9,17]\nin w [17,8]\nlet y = contract(\"ij,jk->ik\", x, w)\nout relu(y) - 1\nout sum(y * y)", "in x [40]\nout window(x, 0, 9, 2)", "in x [16,9]\nout fold(x, 0, 1, 24)", "in x [3,11]\nout gather(x, 1, [10,0,0,5])\nout scatter(x, 1, 30, [0,3,6,9,12,15,18,21,24,27,29])", "in x [33]\nout pad(slice(x, 0, 1, 16, 2), 0, 3, 4, 1)", "in x [2,3,10]\nout reshape(x, [60]) / 7\nout step(x)", "in x [32,40]\nout contract(\"ab,cb->ac\", x, x)", "in x [16,16]\nin y [16,16]\nout contract(\"ab,bc,cd->ad\", x, y, x)",
	} {
		g, at := impl.Trace(src)
		if at >= 0 {
			t.Fatalf("%q is wrong at %d", src, at)
		}
		l, ok := impl.Lower(impl.Simplify(g))
		if !ok {
			t.Fatalf("no nest of %q", src)
		}
		inputs := inputsFor(source, g)
		for _, made := range []impl.Nest{l, impl.Fuse(l)} {
			p, _ := impl.MakePlan(made)
			if got := impl.RunCompiled(p, dataOf(inputs)); !sameLists(got, dataOf(impl.Eval(g, inputs))) {
				t.Errorf("compiled, %q gives %v", src, got)
			}
			// With just the fuel that was needed it ends the same.
			want, done, how := runPlanCode(p, dataOf(inputs), impl.MaxFuel)
			if got, count, end := runPlanCode(p, dataOf(inputs), done); how != impl.RunOk || end != impl.RunOk || count != done || !slices.Equal(got, want) {
				t.Errorf("%q with %d: %d are done, %d", src, done, count, end)
			}
			if _, count, end := runPlanCode(p, dataOf(inputs), max(done-1, 0)); done > 0 && (count != done-1 || end != impl.RunFuel) {
				t.Errorf("%q with one less than %d: %d are done, %d", src, done, count, end)
			}
		}
	}
}

// A compileRow has a nest, and the code of the plan that MakePlan makes of it.
type compileRow struct{ nest, code string }

func checkCompileRows(t *testing.T, rows []compileRow) {
	t.Helper()
	source := rand.New(rand.NewSource(212))
	for _, row := range rows {
		p, ok := impl.MakePlan(nestIn(row.nest))
		code, there := checkCompile(t, p)
		if !ok || !there || !slices.Equal(code, instrsIn(row.code)) {
			t.Errorf("Compile of\n%sis\n%s\nnot\n%s", planText(p), instrsText(code), row.code)
		}
		ins := insFor(source, p.Nest)
		checkCompiled(t, p, ins)
		checkFuelsOfPlan(t, source, p, ins)
		checkCompiled(t, otherPlan(source, p), ins)
	}
}

func TestCompileOfBuffers(t *testing.T) {
	chunk := func(size int) string { return fmt.Sprintf("sizes %d\nout 0", size) }
	checkCompileRows(t, []compileRow{
		// Nothing to do: no buffers, none alive, given ones alone.
		{"sizes", ""}, {"sizes 0", ""}, {"sizes 5", ""}, {"sizes 5\nin 0\nout 0", ""}, {"sizes 2 1\nin 0\nfix 1 4\nout 1 0 1", ""}, {"sizes 0 0\nin 0\nout 1 0", ""},
		// Of each size, without a kernel.
		{chunk(1), "base 0 0, set 0 0, wide 1, store 0 0 1"}, {chunk(7), "base 0 0, set 0 0, wide 7, store 0 0 1"}, {chunk(8), "base 0 0, set 0 0, wide 8, store 0 0 1, move 0 8"}, {chunk(9), "base 0 0, set 0 0, wide 8, store 0 0 1, move 0 8, wide 1, store 0 0 1"}, {chunk(15), "base 0 0, set 0 0, wide 8, store 0 0 1, move 0 8, wide 7, store 0 0 1"}, {chunk(16), "base 0 0, set 0 0, wide 8, rep 2, store 0 0 1, move 0 8, end"}, {chunk(17), "base 0 0, set 0 0, wide 8, rep 2, store 0 0 1, move 0 8, end, wide 1, store 0 0 1"}, {chunk(23), "base 0 0, set 0 0, wide 8, rep 2, store 0 0 1, move 0 8, end, wide 7, store 0 0 1"}, {chunk(24), "base 0 0, set 0 0, wide 8, rep 3, store 0 0 1, move 0 8, end"}, {chunk(4095), "base 0 0, set 0 0, wide 8, rep 511, store 0 0 1, move 0 8, end, wide 7, store 0 0 1"}, {chunk(4096), "base 0 0, set 0 0, wide 8, rep 512, store 0 0 1, move 0 8, end"},
		// By number, wherever they lie; given ones and such as are never alive are left out.
		{"sizes 3 0 4 5 2 6\nin 2\nfix 5 1 2 3 4 5 6\nout 4 1 0 0 2", "base 0 10, set 0 0, wide 3, store 0 0 1, base 0 13, set 0 0, wide 2, store 0 0 1"},
		// Ahead of the kernel with which a life begins: what it stores in and what it loads; an Out that nothing touches ahead of the first.
		{"sizes 2 3 4 1\nfor 2: 0@0(1) -> 1@0(1): load 0\nfor 2: 1@0(1) -> 2@0(1): load 0\nout 2 3", "base 0 0, set 0 0, wide 2, store 0 0 1, base 0 4, set 0 0, wide 3, store 0 0 1, base 0 7, set 0 0, wide 1, store 0 0 1, base 0 0, base 1 4, wide 2, load 0 0 1, store 0 1 1, base 0 0, set 0 0, wide 4, store 0 0 1, base 0 4, base 1 0, wide 2, load 0 0 1, store 0 1 1"},
	})
}

func TestCompileOfLoops(t *testing.T) {
	rows := []compileRow{}
	for n, body := range map[int]string{
		1: "wide 1, load 0 0 0, sum 0 1 0", 7: "wide 7, load 0 0 1, sum 0 1 1", 8: "wide 8, load 0 0 1, sum 0 1 1, move 0 8, move 1 8, move 0 -8, move 1 -8",
		9:  "wide 8, load 0 0 1, sum 0 1 1, move 0 8, move 1 8, wide 1, load 0 0 1, sum 0 1 1, move 0 -8, move 1 -8",
		16: "wide 8, rep 2, load 0 0 1, sum 0 1 1, move 0 8, move 1 8, end, move 0 -16, move 1 -16",
		29: "wide 8, rep 3, load 0 0 1, sum 0 1 1, move 0 8, move 1 8, end, wide 5, load 0 0 1, sum 0 1 1, move 0 -24, move 1 -24",
	} {
		step := min(n-1, 1)
		rows = append(rows, compileRow{fmt.Sprintf("sizes 29 29\nin 0\nfor %d: 0@0(%d) +> 1@0(%d): load 0", n, step, step), "base 0 29, set 0 0, wide 8, rep 3, store 0 0 1, move 0 8, end, wide 5, store 0 0 1, base 0 0, base 1 29, " + body})
	}
	one := "base 0 24, set 0 0, wide 1, store 0 0 1, "
	checkCompileRows(t, append(rows, []compileRow{
		// Without loops, and with loops of 1.
		{"sizes 24 1\nin 0\nfor: 0@5() -> 1@0(): load 0", one + "base 0 5, base 1 24, wide 1, load 0 0 0, store 0 1 0"}, {"sizes 24 1\nin 0\nfor 1: 0@5(0) -> 1@0(0): load 0", one + "base 0 5, base 1 24, wide 1, load 0 0 0, store 0 1 0"}, {"sizes 24 1\nin 0\nfor 1 1 1: 0@5(0 0 0) -> 1@0(0 0 0): load 0", one + "base 0 5, base 1 24, rep 1, rep 1, wide 1, load 0 0 0, store 0 1 0, end, end"},
		// Steps of 0 and below 0, of loops that are the last and of others.
		{"sizes 24 1\nin 0\nfor 24: 0@23(-1) +> 1@0(0): load 0", one + "base 0 23, base 1 24, wide 8, rep 3, load 0 0 -1, sum 0 1 0, move 0 -8, end, move 0 24"}, {"sizes 24 1\nin 0\nfor 2 9: 0@0(9 1) +> 1@0(0 0): load 0", one + "base 0 0, base 1 24, rep 2, wide 8, load 0 0 1, sum 0 1 0, move 0 8, wide 1, load 0 0 1, sum 0 1 0, move 0 -8, move 0 9, end, move 0 -18"}, {"sizes 24 1\nin 0\nfor 2 3 4: 0@12(-12 1 3) +> 1@0(0 0 0): load 0", one + "base 0 12, base 1 24, rep 2, rep 3, wide 4, load 0 0 3, sum 0 1 0, move 0 1, end, move 0 -3, move 0 -12, end, move 0 24"}, {"sizes 24 1\nin 0\nfor 3 1 8: 0@7(8 0 -1) +> 1@0(0 0 0): load 0", one + "base 0 7, base 1 24, rep 3, rep 1, wide 8, load 0 0 -1, sum 0 1 0, move 0 -8, move 0 8, end, move 0 8, end, move 0 -24"}, {"sizes 24 1\nin 0\nfor 65536: 0@3(0) +> 1@0(0): load 0", one + "base 0 3, base 1 24, wide 8, rep 8192, load 0 0 0, sum 0 1 0, end"},
		// Each step of Code, without Sum; a Load that no Code names; a buffer among the Loads twice.
		{"sizes 24 1\nin 0\nfor: 0@1() 0@2() -> 1@0(): load 1, const 2147483646, add 0 1, sub 1 2, mul 3 3, neg 4, inv 0, step 5, relu 6, load 0", one + "base 0 1, base 1 2, base 2 24, wide 1, load 0 1 0, set 1 2147483646, add 2 0 1, sub 3 1 2, mul 4 3 3, neg 5 4, inv 6 0, step 7 5, relu 8 6, load 9 0 0, store 9 2 0"}, {"sizes 24 1\nin 0\nfor 3 8: 0@0(8 1) -> 1@0(0 0): const 5", one + "base 0 0, base 1 24, rep 3, wide 8, set 0 5, store 0 1 0, move 0 8, move 0 -8, move 0 8, end, move 0 -24"}, {"sizes 24 1\nin 0\nfor 3 8: 0@0(8 1) 0@7(8 -1) 0@0(1 2) -> 1@0(0 0): load 2, load 0", one + "base 0 0, base 1 7, base 2 0, base 3 24, rep 3, wide 8, load 0 2 2, load 1 0 1, store 1 3 0, move 0 8, move 1 -8, move 2 16, move 0 -8, move 1 8, move 2 -16, move 0 8, move 1 8, move 2 1, end, move 0 -24, move 1 -24, move 2 -3"},
		// No Loads; the Store has address 0 then.
		{"sizes 24\nfor 24: -> 0@0(1): const 9\nout 0", "base 0 0, set 0 0, wide 8, rep 3, store 0 0 1, move 0 8, end, base 0 0, wide 8, rep 3, set 0 9, store 0 0 1, move 0 8, end, move 0 -24"},
	}...))
}

// Where the buffers lie is said by Offsets alone, and the Arena says nothing of
// the code.
func TestCompileOfOtherOffsets(t *testing.T) {
	nest := nestIn("sizes 2 3 2 0\nin 0\nfor 2: 0@1(-1) -> 1@1(1): load 0\nfor 2: 1@0(1) +> 2@0(1): load 0\nout 2 3")
	text := "base 0 %[1]d, set 0 0, wide 3, store 0 0 1, base 0 %[3]d, base 1 %[4]d, wide 2, load 0 0 -1, store 0 1 1, base 0 %[2]d, set 0 0, wide 2, store 0 0 1, base 0 %[1]d, base 1 %[2]d, wide 2, load 0 0 1, sum 0 1 1"
	for _, row := range []struct{ a, b, c, arena int }{{3, 0, 3, 5}, {0, 2, 0, 5}, {0, 2, 5, 7}, {5, 0, 3, 7}, {1, 20, 11, 500}, {999995, 999997, 999995, 1000000}, {0, 999997, 1, 1000000}, {3, 0, 3, 1000000}} {
		p := impl.Plan{Nest: nest, Offsets: ints(row.a, row.b, row.c, -1), Arena: row.arena}
		want := instrsIn(fmt.Sprintf(text, row.b, row.c, row.a+1, row.b+1))
		if code, ok := checkCompile(t, p); !ok || !slices.Equal(code, want) {
			t.Errorf("Compile of\n%sis\n%s", planText(p), instrsText(code))
		}
		if got := checkCompiled(t, p, [][]int{{5, 6}}); !sameLists(got, [][]int{{0, 6}, {}}) {
			t.Errorf("RunCompiled of\n%sis %v", planText(p), got)
		}
	}
}

// manyInstrs is a plan of which the code has just MaxInstrs instructions, and as
// many more as are told.
func manyInstrs(more int) impl.Plan {
	l := nestIn("sizes 1 1\nin 0\nout 1")
	for number := range 400 {
		loads := 24
		if number < 396+more {
			loads++
		}
		l.Kernels = append(l.Kernels, kernelIn("for 9: "+strings.Repeat("0@0(0) ", loads)+"+> 1@0(0): "+strings.Repeat("load 3,", 59)+"const "+strconv.Itoa(number)))
	}
	p, _ := impl.MakePlan(l)
	return p
}

func TestCompileAtLimits(t *testing.T) {
	for more, want := range map[int]int{-1: 59999, 0: 60000, 1: 0, 4: 0} {
		p := manyInstrs(more)
		code, ok := checkCompile(t, p)
		if len(code) != want || ok != (want > 0) || !impl.PlanOk(p) {
			t.Errorf("%d more than MaxInstrs: %d", more, len(code))
		}
		got := impl.RunCompiled(p, [][]int{{5}})
		if plan := impl.RunPlan(p, [][]int{{5}}); len(plan) != 1 || ok != sameLists(got, plan) || ok != (len(got) > 0) {
			t.Errorf("%d more than MaxInstrs: RunCompiled is %v, RunPlan %v", more, got, plan)
		}
	}
	// As many loops, Loads and steps of Code as there can be.
	l := nestIn("sizes 4096 4096\nin 0\nout 1")
	great := impl.Kernel{Loops: slices.Repeat(ints(2), 12), Store: impl.Access{Buffer: 1, Offset: 4095, Steps: noughts(12)}, Sum: true}
	for at := range great.Store.Steps {
		great.Store.Steps[at] = -1 << (11 - at)
	}
	for at := range 30 {
		steps := plainOf(great.Loops)
		slices.Reverse(steps[at%12:])
		great.Loads = append(great.Loads, impl.Access{Buffer: 0, Steps: steps})
		great.Code = append(great.Code, impl.Calc{Op: impl.KLoad, A: at}, impl.Calc{Op: impl.KAdd, A: 2 * at, B: max(0, 2*at-1)})
	}
	l.Kernels = []impl.Kernel{great}
	p, ok := impl.MakePlan(l)
	if code, there := checkCompile(t, p); !ok || !there || len(code) < 700 {
		t.Fatalf("the greatest kernel has %d instructions", len(code))
	}
	checkCompiled(t, p, insFor(rand.New(rand.NewSource(213)), l))
	// A loop as long as can be, behind another and ahead of it.
	for _, text := range []string{"for 65536 1: 0@9(0 0) +> 1@7(0 0): load 0", "for 1 65536: 0@9(0 0) +> 1@7(0 0): load 0", "for 16 4096: 0@4095(0 -1) +> 1@0(0 1): load 0", "for 4096 16: 0@4095(-1 0) +> 1@0(1 0): load 0"} {
		l.Kernels = []impl.Kernel{kernelIn(text)}
		p, _ := impl.MakePlan(l)
		checkCompiled(t, p, insFor(rand.New(rand.NewSource(214)), l))
	}
}

// A plan of which the code needs just MaxFuel is run, one that needs one more is
// not.
func TestRunCompiledAtMaxFuel(t *testing.T) {
	sixty := ": const 1, const 2" + strings.Repeat(", add 0 1", 58)
	text := "sizes 1 1\nin 1\nfor 65536 1: +> 0@0(0 0)" + sixty + "\nfor 65536 1: +> 0@0(0 0)" + sixty + "\nfor 27657 1: +> 0@0(0 0)" + sixty
	just, _ := impl.MakePlan(nestIn(text + "\nfor: +> 0@0()" + sixty + "\nout 0 1"))
	more, _ := impl.MakePlan(nestIn(text + "\nfor: 1@0() +> 0@0()" + sixty + "\nout 0 1"))
	ins := [][]int{{4}}
	want := [][]int{{3 * (65536 + 65536 + 27657 + 1)}, {4}}
	if _, done, how := runPlanCode(just, ins, impl.MaxFuel); done != 10000000 || how != impl.RunOk {
		t.Errorf("%d are done, %d", done, how)
	}
	if _, done, how := runPlanCode(more, ins, impl.MaxFuel); done != 10000000 || how != impl.RunFuel {
		t.Errorf("with one more %d are done, %d", done, how)
	}
	if _, done, how := runPlanCode(just, ins, impl.MaxFuel-1); done != 9999999 || how != impl.RunFuel {
		t.Errorf("with less fuel %d are done, %d", done, how)
	}
	if got := impl.RunCompiled(just, ins); !sameLists(got, want) || !sameLists(impl.RunPlan(more, ins), want) {
		t.Errorf("RunCompiled is %v", got)
	}
	if got := impl.RunCompiled(more, ins); len(got) > 0 {
		t.Errorf("RunCompiled of what needs more than MaxFuel is %v", got)
	}
}

func TestRunCompiledRows(t *testing.T) {
	source := rand.New(rand.NewSource(215))
	p := impl.Prime
	for _, row := range []struct {
		nest string
		ins  [][]int
		want [][]int
	}{
		// Without kernels; an Out that is given, that nothing stores in, of size 0, twice.
		{"sizes", nil, nil}, {"sizes 2", nil, nil}, {"sizes 2\nout 0", nil, [][]int{{0, 0}}}, {"sizes 2\nout 0 0", nil, [][]int{{0, 0}, {0, 0}}}, {"sizes 2 0\nin 0\nout 1 0 1 0", [][]int{{5, 6}}, [][]int{{}, {5, 6}, {}, {5, 6}}}, {"sizes 2 3\nin 1 0\nout 0 1", [][]int{{1, 2, 3}, {4, 5}}, [][]int{{4, 5}, {1, 2, 3}}}, {"sizes 2 3\nfix 1 7 8 9\nout 1 0", nil, [][]int{{7, 8, 9}, {0, 0}}}, {"sizes 0\nin 0\nout 0", [][]int{{}}, [][]int{{}}}, {"sizes 0\nin 0\nout 0", [][]int{nil}, [][]int{{}}}, {"sizes 0\nfix 0\nout 0 0", nil, [][]int{{}, {}}}, {"sizes 0 1\nout 0 1", nil, [][]int{{}, {0}}}, {"sizes 9 10\nin 0\nout 1 0", [][]int{{1, 2, 3, 4, 5, 6, 7, 8, 9}}, [][]int{noughts(10), {1, 2, 3, 4, 5, 6, 7, 8, 9}}},
		// A nest without Outs.
		{"sizes 2 2\nin 0\nfor 2: 0@0(1) -> 1@0(1): load 0", [][]int{{5, 6}}, nil},
		// A place that is met twice: within the lanes and from one chunk to the next, the last stays or all are added up.
		{"sizes 9 1\nin 0\nfor 9: 0@0(1) -> 1@0(0): load 0\nout 1", [][]int{{1, 2, 3, 4, 5, 6, 7, 8, 9}}, [][]int{{9}}}, {"sizes 8 1\nin 0\nfor 8: 0@7(-1) -> 1@0(0): load 0\nout 1", [][]int{{1, 2, 3, 4, 5, 6, 7, 8}}, [][]int{{1}}}, {"sizes 9 1\nin 0\nfor 9: 0@0(1) +> 1@0(0): load 0\nout 1", [][]int{{1, 2, 3, 4, 5, 6, 7, 8, p - 1}}, [][]int{{35}}}, {"sizes 4 9\nin 0\nfor 4 6: 0@0(1 0) +> 1@0(1 1): load 0\nout 1", [][]int{{1, 10, 100, 1000}}, [][]int{{1, 11, 111, 1111, 1111, 1111, 1110, 1100, 1000}}}, {"sizes 4 9\nin 0\nfor 4 6: 0@0(1 0) -> 1@0(1 1): load 0\nout 1", [][]int{{1, 10, 100, 1000}}, [][]int{{1, 10, 100, 1000, 1000, 1000, 1000, 1000, 1000}}},
		// What is not clean is made 0 ahead of the kernel, and once alone.
		{"sizes 2 2 2 2\nin 0\nfor 2: 0@0(1) -> 1@0(1): load 0\nfor 2: 1@0(1) -> 2@0(1): load 0\nfor 2: 2@0(1) +> 3@0(1): load 0\nout 3", [][]int{{5, 6}}, [][]int{{5, 6}}}, {"sizes 1 4\nin 0\nfor: 0@0() -> 1@1(): load 0\nout 1", [][]int{{5}}, [][]int{{0, 5, 0, 0}}}, {"sizes 2 2\nin 0\nfor 2: 0@0(1) +> 1@0(1): load 0\nfor 2: 0@0(1) +> 1@0(1): load 0\nout 1", [][]int{{5, p - 1}}, [][]int{{10, p - 2}}}, {"sizes 2 2\nfor 2: 0@0(1) -> 1@0(1): load 0, const 3, add 0 1\nout 1 0", nil, [][]int{{3, 3}, {0, 0}}},
	} {
		plan, ok := impl.MakePlan(nestIn(row.nest))
		if got := checkCompiled(t, plan, row.ins); !ok || !sameLists(got, row.want) {
			t.Errorf("RunCompiled of\n%sat %v is %v, not %v", planText(plan), row.ins, got, row.want)
		}
		for range 5 {
			other := otherPlan(source, plan)
			if got := checkCompiled(t, other, row.ins); !sameLists(got, row.want) {
				t.Errorf("RunCompiled of\n%sat %v is %v, not %v", planText(other), row.ins, got, row.want)
			}
		}
	}
}

func TestRunCompiledOfWrongIns(t *testing.T) {
	p, ok := impl.MakePlan(nestIn("sizes 2 3 2 0\nin 1 0 3\nfor 2: 0@0(1) 1@0(1) -> 2@0(1): load 0, load 1, add 0 1\nout 2 3 2"))
	if got := checkCompiled(t, p, [][]int{{1, 2, 3}, {4, 5}, {}}); !ok || !sameLists(got, [][]int{{5, 7}, {}, {5, 7}}) {
		t.Errorf("RunCompiled is %v", got)
	}
	wrong := [][][]int{nil, {{1, 2, 3}}, {{1, 2, 3}, {4, 5}}, {{1, 2, 3}, {4, 5}, {}, {}}, {{4, 5}, {1, 2, 3}, {}}, {{1, 2}, {4, 5}, {}}, {{1, 2, 3, 4}, {4, 5}, {}}, {{1, 2, 3}, {4}, {}}, {{1, 2, 3}, {4, 5, 6}, {}}, {{1, 2, 3}, {4, 5}, {0}}, {nil, {4, 5}, {}}, {{1, 2, 3}, nil, nil}}
	for _, x := range ints(-1, impl.Prime, impl.Prime+1, math.MinInt, math.MaxInt) {
		wrong = append(wrong, [][]int{{x, 2, 3}, {4, 5}, {}}, [][]int{{1, 2, x}, {4, 5}, {}}, [][]int{{1, 2, 3}, {4, x}, {}}, [][]int{{1, 2, 3}, {x, 5}, {}})
	}
	for _, ins := range wrong {
		if got := checkCompiled(t, p, ins); len(got) > 0 {
			t.Errorf("at %v RunCompiled is %v", ins, got)
		}
	}
	edge := [][]int{{0, impl.Prime - 1, 0}, {impl.Prime - 1, impl.Prime - 1}, nil}
	if got := checkCompiled(t, p, edge); !sameLists(got, [][]int{{impl.Prime - 1, impl.Prime - 2}, {}, {impl.Prime - 1, impl.Prime - 2}}) {
		t.Errorf("at the greatest numbers RunCompiled is %v", got)
	}
	if got := impl.RunCompiled(impl.Plan{}, [][]int{{}}); len(got) > 0 {
		t.Errorf("of the empty plan comes %v", got)
	}
}

// Nothing comes of what is not PlanOk.
func TestCompileOfWrongPlans(t *testing.T) {
	source := rand.New(rand.NewSource(216))
	checkWrong := func(p impl.Plan, ins [][]int) {
		t.Helper()
		if code, ok := checkCompile(t, p); ok || len(code) > 0 {
			t.Fatalf("Compile is %s of\n%s", instrsText(code), planText(p))
		}
		if got := impl.RunCompiled(p, ins); len(got) > 0 {
			t.Fatalf("RunCompiled is %v of\n%s", got, planText(p))
		}
	}
	for _, l := range wrongNests() {
		for _, offsets := range [][]int{nil, noughts(len(l.Sizes)), slices.Repeat(ints(-1), len(l.Sizes)), ints(0, 6, 12, -1, -1)} {
			checkWrong(impl.Plan{Nest: l, Offsets: offsets, Arena: 4096}, [][]int{noughts(6)})
		}
	}
	ins := insFor(source, planBase().Nest)
	if got := checkCompiled(t, planBase(), ins); len(got) != 4 {
		t.Errorf("RunCompiled is %v", got)
	}
	for _, change := range []func(p *impl.Plan){
		func(p *impl.Plan) { p.Arena = 12 }, func(p *impl.Plan) { p.Arena = 1000001 }, func(p *impl.Plan) { p.Arena = -1 }, func(p *impl.Plan) { p.Arena = math.MinInt }, func(p *impl.Plan) { p.Offsets = nil }, func(p *impl.Plan) { p.Offsets = p.Offsets[:7] }, func(p *impl.Plan) { p.Offsets[2] = 3 }, func(p *impl.Plan) { p.Offsets[5] = 0 }, func(p *impl.Plan) { p.Offsets[0] = -1 }, func(p *impl.Plan) { p.Offsets[7] = math.MaxInt }, func(p *impl.Plan) { p.Nest.Kernels[0].Code = nil }, func(p *impl.Plan) { p.Nest = impl.Nest{} },
	} {
		p := planBase()
		change(&p)
		checkWrong(p, ins)
	}
	wrong := 0
	for _, l := range idleNests(300, 217) {
		p, _ := impl.MakePlan(l)
		spoilt := otherPlan(source, p)
		if source.Intn(2) == 0 {
			spoilt.Nest = spoiltNest(source, l)
		} else {
			spoilt.Offsets[source.Intn(len(spoilt.Offsets))] = source.Intn(spoilt.Arena+3) - source.Intn(2)
		}
		if wantPlanOk(spoilt) {
			checkCompiled(t, spoilt, insFor(source, spoilt.Nest))
			continue
		}
		wrong++
		checkWrong(spoilt, insFor(source, l))
	}
	if wrong < 100 {
		t.Errorf("%d are wrong", wrong)
	}
	if code, ok := impl.Compile(impl.Plan{}); !ok || len(code) > 0 {
		t.Error("Compile of the empty plan")
	}
}

func TestMachineListsAreLeftAlone(t *testing.T) {
	source := rand.New(rand.NewSource(218))
	for range 400 {
		memory := withRooms(randomNumbers(source, source.Intn(20)))
		code := withRooms(randomCode(source, len(memory)))
		wrong := withRooms(append(slices.Clone(code), impl.Instr{Op: 17}))
		checkLeftAlone(t, "CodeOk", func() bool { return impl.CodeOk(code) }, code)
		for _, fuel := range ints(0, 5, 100000, -1) {
			checkLeftAlone(t, "RunCode", func() []int { made, _, _ := impl.RunCode(code, memory, fuel); return made }, code, memory)
			checkLeftAlone(t, "RunCode", func() []int { made, _, _ := impl.RunCode(wrong, memory, fuel); return made }, wrong, memory)
		}
	}
	nests := slices.Concat(idleNests(100, 219), wideNests(150, 220), wrongNests(), []impl.Nest{{}, plainNest(), nestIn("sizes 2\nout 0 0 0"), nestIn("sizes 20\nin 0\nout 0 0 0")})
	for _, l := range nests {
		ins := [][]int{}
		if impl.NestOk(l) {
			ins = withRooms(insFor(source, l))
		}
		p, _ := impl.MakePlan(l)
		for _, plan := range []impl.Plan{withRooms(p), withRooms(impl.Plan{Nest: l, Offsets: noughts(len(l.Sizes)), Arena: 900})} {
			checkLeftAlone(t, "Compile", func() []impl.Instr { code, _ := impl.Compile(plan); return code }, plan)
			checkLeftAlone(t, "RunCompiled", func() [][]int { return impl.RunCompiled(plan, ins) }, plan, ins)
		}
	}
}

func TestRoomBehindMachineListsIsNotRead(t *testing.T) {
	code := instrsIn("wide 1, set 0 9, store 0 0 0, end, wide 9")
	if !impl.CodeOk(code[:3]) || impl.CodeOk(code[:4]) || impl.CodeOk(instrsIn("rep 1, end")[:1]) {
		t.Error("CodeOk has read behind the code")
	}
	memory := ints(1, 2, -3)
	if got, done, how := impl.RunCode(code[:3], memory[:2], 9); !slices.Equal(got, ints(9, 2)) || done != 3 || how != impl.RunOk {
		t.Errorf("RunCode has read behind a list: %v, %d, %d", got, done, how)
	}
	if got, done, how := impl.RunCode(instrsIn("base 0 1, wide 2, load 0 0 1"), ints(1, 2, 3)[:2], 9); len(got) != 2 || done != 2 || how != impl.RunPlace {
		t.Errorf("RunCode has read behind the memory: %v, %d, %d", got, done, how)
	}
	p := planBase()
	p.Offsets = append(p.Offsets, 3)[:8]
	if _, ok := checkCompile(t, p); !ok {
		t.Error("Compile has read behind Offsets")
	}
}

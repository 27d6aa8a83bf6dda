package tests

import (
	"fmt"
	"math"
	"reflect"
	"strconv"
	"strings"
	"testing"

	"loop.example/s02548/impl"
)

// codeOf reads code as words: n nop, r return, j4 jump to 4, z4 jumpzero to 4, g4 guard to 4.
func codeOf(text string) []impl.Instr {
	ops := map[byte]int64{'n': impl.OpNop, 'r': impl.OpReturn, 'j': impl.OpJump, 'z': impl.OpJumpZero, 'g': impl.OpGuard}
	var code []impl.Instr
	for _, word := range strings.Fields(text) {
		place, _ := strconv.ParseInt(word[1:], 10, 64)
		code = append(code, impl.Instr{Op: ops[word[0]], C: place})
	}
	return code
}

// textOf writes code in the words that codeOf reads, and other instructions by their numbers.
func textOf(code []impl.Instr) string {
	var words []string
	for _, i := range code {
		switch i.Op {
		case impl.OpReturn:
			words = append(words, "r")
		case impl.OpJump, impl.OpJumpZero, impl.OpGuard:
			words = append(words, "jzg"[i.Op-impl.OpJump:][:1]+strconv.FormatInt(i.C, 10))
		case impl.OpNop:
			words = append(words, "n")
		default:
			words = append(words, strconv.FormatInt(i.Op, 10))
		}
	}
	if len(words) > 60 {
		words = append(words[:60], "..", strconv.Itoa(len(code)), "in all")
	}
	return strings.Join(words, " ")
}

func listText(list []int64) string {
	return strings.ReplaceAll(strings.Trim(fmt.Sprint(list), "[]"), " ", ",")
}

// blocksText: 0-1>2,3 is a block of the instructions 0 and 1, from which edges go to the blocks 2 and 3.
func blocksText(blocks []impl.Block) string {
	var words []string
	for _, b := range blocks {
		words = append(words, fmt.Sprintf("%d-%d>%s", b.First, b.Last, listText(b.Next)))
	}
	return strings.Join(words, " ")
}

// loopsText: 1<2,3:1,2,3 is a loop with head 1, gone back to from 2 and 3.
func loopsText(loops []impl.Loop) string {
	var words []string
	for _, l := range loops {
		words = append(words, fmt.Sprintf("%d<%s:%s", l.Head, listText(l.Back), listText(l.Blocks)))
	}
	return strings.Join(words, " ")
}

func flowText(f impl.Flow) string {
	return fmt.Sprintf("code %d at %d; %s; order %s; idom %s; loops %s", f.Code, f.At, blocksText(f.Blocks), listText(f.Order), listText(f.Idom), loopsText(f.Loops))
}

func named(i impl.Instr) bool {
	return i.Op == impl.OpJump || i.Op == impl.OpJumpZero || i.Op == impl.OpGuard
}

// wantedBlocks: the blocks as the document tells them.
func wantedBlocks(code []impl.Instr) []impl.Block {
	if len(code) < 1 || len(code) > impl.MaxCode {
		return nil
	}
	leads := make([]bool, len(code)+1)
	leads[0], leads[len(code)] = true, true
	for at, i := range code {
		if named(i) {
			if i.C < 0 || i.C >= int64(len(code)) {
				return nil
			}
			leads[i.C] = true
		}
		if named(i) || i.Op == impl.OpReturn {
			leads[at+1] = true
		}
	}
	numbers := make([]int64, len(code)+1)
	for at := 1; at <= len(code); at++ {
		numbers[at] = numbers[at-1]
		if leads[at] {
			numbers[at]++
		}
	}
	var blocks []impl.Block
	first := 0
	for last, i := range code {
		if !leads[last+1] {
			continue
		}
		b := impl.Block{First: int64(first), Last: int64(last)}
		behind := last+1 < len(code)
		switch i.Op {
		case impl.OpReturn:
		case impl.OpJump:
			b.Next = []int64{numbers[i.C]}
		case impl.OpJumpZero, impl.OpGuard:
			if behind {
				b.Next = []int64{numbers[last+1]}
			}
			if !behind || numbers[i.C] != numbers[last+1] {
				b.Next = append(b.Next, numbers[i.C])
			}
		default:
			if behind {
				b.Next = []int64{numbers[last+1]}
			}
		}
		blocks = append(blocks, b)
		first = last + 1
	}
	return blocks
}

// comeTo: which blocks can be come to from one of these starts, if one block (-1: none) is taken away?
func comeTo(blocks []impl.Block, without int64, starts ...int64) []bool {
	seen := make([]bool, len(blocks))
	open := append([]int64{}, starts...)
	for len(open) > 0 {
		b := open[0]
		open = open[1:]
		if b == without || seen[b] {
			continue
		}
		seen[b] = true
		open = append(open, blocks[b].Next...)
	}
	return seen
}

// wantedOrder walks with a list of its own in place of calls: of each block that is under way how many of Next are taken.
func wantedOrder(blocks []impl.Block) []int64 {
	seen := make([]bool, len(blocks))
	seen[0] = true
	way, taken := []int64{0}, []int{0}
	var left []int64
	for len(way) > 0 {
		top := len(way) - 1
		next := blocks[way[top]].Next
		if taken[top] == len(next) {
			left = append(left, way[top])
			way, taken = way[:top], taken[:top]
			continue
		}
		to := next[taken[top]]
		taken[top]++
		if !seen[to] {
			seen[to] = true
			way, taken = append(way, to), append(taken, 0)
		}
	}
	var order []int64
	for i := len(left) - 1; i >= 0; i-- {
		order = append(order, left[i])
	}
	return order
}

// domination by its meaning: taking a block away cuts off what it dominates.
func domination(blocks []impl.Block) [][]bool {
	dominates := make([][]bool, len(blocks))
	for a := range blocks {
		dominates[a] = comeTo(blocks, int64(a), 0)
		for b := range blocks {
			dominates[a][b] = !dominates[a][b]
		}
	}
	return dominates
}

// wantedIdom: of the other blocks that dominate a block the one that all of them dominate.
func wantedIdom(dominates [][]bool) []int64 {
	count := func(b int) int64 {
		n := int64(0)
		for a := range dominates {
			if dominates[a][b] {
				n++
			}
		}
		return n
	}
	depth := make([]int64, len(dominates))
	for b := range dominates {
		depth[b] = count(b)
	}
	idom := make([]int64, len(dominates))
	for b := range dominates {
		idom[b] = -1
		for a := range dominates {
			if dominates[a][b] && depth[a] == depth[b]-1 {
				idom[b] = int64(a)
			}
		}
	}
	return idom
}

// turnedRound has all edges the other way.
func turnedRound(blocks []impl.Block) []impl.Block {
	turned := make([]impl.Block, len(blocks))
	for b, block := range blocks {
		for _, n := range block.Next {
			turned[n].Next = append(turned[n].Next, int64(b))
		}
	}
	return turned
}

func wantedLoops(blocks []impl.Block, dominates [][]bool) []impl.Loop {
	turned := turnedRound(blocks)
	var loops []impl.Loop
	for h := range blocks {
		l := impl.Loop{Head: int64(h)}
		for b := range blocks {
			for _, n := range blocks[b].Next {
				if n == l.Head && dominates[h][b] {
					l.Back = append(l.Back, int64(b))
				}
			}
		}
		if len(l.Back) == 0 {
			continue
		}
		for b, seen := range comeTo(turned, l.Head, l.Back...) {
			if seen || b == h {
				l.Blocks = append(l.Blocks, int64(b))
			}
		}
		loops = append(loops, l)
	}
	return loops
}

func wantedFlow(code []impl.Instr) impl.Flow {
	blocks := wantedBlocks(code)
	if len(blocks) == 0 {
		return impl.Flow{Code: 4}
	}
	if end := len(code) - 1; code[end].Op != impl.OpJump && code[end].Op != impl.OpReturn {
		return impl.Flow{Code: 1, At: int64(end)}
	}
	for b, seen := range comeTo(blocks, -1, 0) {
		if !seen {
			return impl.Flow{Code: 2, At: blocks[b].First}
		}
	}
	order := wantedOrder(blocks)
	place := make([]int, len(blocks))
	for at, b := range order {
		place[b] = at
	}
	dominates := domination(blocks)
	for b := range blocks {
		for _, n := range blocks[b].Next {
			if place[n] <= place[b] && !dominates[n][b] {
				return impl.Flow{Code: 3, At: blocks[n].First}
			}
		}
	}
	return impl.Flow{Blocks: blocks, Order: order, Idom: wantedIdom(dominates), Loops: wantedLoops(blocks, dominates)}
}

// checkFlow holds blocks and flow of code against the model, and tells the flow.
func checkFlow(t *testing.T, code []impl.Instr) impl.Flow {
	t.Helper()
	blocks, wanted := impl.BlocksOf(code), wantedBlocks(code)
	if !sameAnswers(blocks, wanted) {
		t.Fatalf("blocks of %s: %s, not %s", textOf(code), blocksText(blocks), blocksText(wanted))
	}
	flow, want := impl.FlowOf(code), wantedFlow(code)
	if !sameAnswers(flow, want) {
		t.Fatalf("flow of %s: %s, not %s", textOf(code), flowText(flow), flowText(want))
	}
	return flow
}

func TestBlocksOfSomeCode(t *testing.T) {
	for text, want := range map[string]string{
		"n":                 "0-0>",
		"r":                 "0-0>",
		"j0":                "0-0>0",
		"z0":                "0-0>0",
		"g0":                "0-0>0",
		"n n n":             "0-2>",
		"n r n":             "0-1> 2-2>",
		"r r":               "0-0> 1-1>",
		"j1 n":              "0-0>1 1-1>",
		"z1 n":              "0-0>1 1-1>",
		"g1 n":              "0-0>1 1-1>",
		"n j1 n":            "0-0>1 1-1>1 2-2>",
		"n z1 n":            "0-0>1 1-1>2,1 2-2>",
		"n g1 n":            "0-0>1 1-1>2,1 2-2>",
		"n n j0":            "0-2>0",
		"n n z0":            "0-2>0",
		"n n g0":            "0-2>0",
		"n n z2":            "0-1>1 2-2>1",
		"n z3 n n":          "0-1>1,2 2-2>2 3-3>",
		"z0 n":              "0-0>1,0 1-1>",
		"g2 z0 j0":          "0-0>1,2 1-1>2,0 2-2>0",
		"n n n z1 n":        "0-0>1 1-3>2,1 4-4>",
		"n z4 n j5 n r":     "0-1>1,2 2-3>3 4-4>3 5-5>",
		"n n g5 n j2 r":     "0-1>1 2-2>2,3 3-4>1 5-5>",
		"j2 r j1":           "0-0>2 1-1> 2-2>1",
		"j-1":               "",
		"j1":                "",
		"z1":                "",
		"g1":                "",
		"z-1 r":             "",
		"g-1 r":             "",
		"r n j3":            "",
		"r n z3":            "",
		"r n g3":            "",
		"r n g9223372036":   "",
		"r j-9223372036 r":  "",
		"j0 j0 j2 j3 j4 z6": "",
	} {
		code := codeOf(text)
		if got := blocksText(impl.BlocksOf(code)); got != want {
			t.Errorf("of %s: %s, not %s", text, got, want)
		}
		checkFlow(t, code)
	}
	if b := impl.BlocksOf(nil); len(b) != 0 {
		t.Error("of no code", b)
	}
}

// allOps: those of the table, and others.
func allOps() []int64 {
	ops := wrongOps()
	for op := range int64(impl.MaxOp + 1) {
		ops = append(ops, op)
	}
	return ops
}

// Only jump, jumpzero and guard name a place: what stands in C of others is nothing to blocks.
func TestBlocksOfEachInstruction(t *testing.T) {
	for _, op := range allOps() {
		i := impl.Instr{Op: op, A: 2, B: 2, C: 2}
		code := []impl.Instr{{}, i, {}, ret()}
		want := "0-3>"
		switch op {
		case impl.OpJump:
			want = "0-1>1 2-3>"
		case impl.OpJumpZero, impl.OpGuard:
			want = "0-1>1 2-3>"
		case impl.OpReturn:
			want = "0-1> 2-3>"
		}
		if got := blocksText(impl.BlocksOf(code)); got != want {
			t.Errorf("with the instruction %d: %s, not %s", op, got, want)
		}
		for _, c := range []int64{-1, 4, math.MaxInt64, math.MinInt64} {
			code[1].C = c
			if got := impl.BlocksOf(code); (len(got) == 0) != named(i) {
				t.Errorf("with the instruction %d and C %d: %s", op, c, blocksText(got))
			}
			checkFlow(t, code)
		}
		// The last instruction that there is: nothing is behind it.
		checkFlow(t, []impl.Instr{{}, {Op: op, C: 1}})
		checkFlow(t, []impl.Instr{{Op: op}})
	}
}

func TestBlocksAtTheLimits(t *testing.T) {
	for _, length := range []int{impl.MaxCode - 1, impl.MaxCode, impl.MaxCode + 1} {
		far := int64(length) - 1
		plain := manyNops(length)
		plain[0] = impl.Instr{Op: impl.OpJumpZero, C: far}
		alone := manyNops(length)
		turned := manyNops(length)
		for at := range int(far) {
			alone[at] = impl.Instr{Op: impl.OpJumpZero, C: far}
			turned[at] = impl.Instr{Op: impl.OpGuard, C: far - int64(at)}
		}
		turned[far] = impl.Instr{Op: impl.OpJump}
		for i, code := range [][]impl.Instr{plain, alone, turned} {
			want := []int{3, length, length}[i]
			if length > impl.MaxCode {
				want = 0
			}
			if got := impl.BlocksOf(code); len(got) != want {
				t.Error("of", length, "instructions:", len(got), "blocks, not", want)
			}
			flow := checkFlow(t, code)
			if length > impl.MaxCode && flow.Code != 4 {
				t.Error("flow of", length, "instructions:", flow.Code)
			}
		}
	}
}

// checkCut: each instruction is in one block, leaders stand first, and nothing but the last leads elsewhere.
func checkCut(t *testing.T, code []impl.Instr) {
	t.Helper()
	blocks := impl.BlocksOf(code)
	at := int64(0)
	firsts := map[int64]bool{}
	for _, b := range blocks {
		firsts[b.First] = true
	}
	for number, b := range blocks {
		if b.First != at || b.Last < b.First {
			t.Fatalf("of %s: block %d goes from %d to %d", textOf(code), number, b.First, b.Last)
		}
		for ; at <= b.Last; at++ {
			if i := code[at]; named(i) && (at != b.Last || !firsts[i.C]) || i.Op == impl.OpReturn && at != b.Last {
				t.Fatalf("of %s: %d stands within block %d", textOf(code), at, number)
			}
		}
		for i, n := range b.Next {
			if !within(n, len(blocks)) || i > 0 && n == b.Next[0] || i > 1 {
				t.Fatalf("of %s: block %d goes to %v", textOf(code), number, b.Next)
			}
		}
	}
	if len(blocks) > 0 && at != int64(len(code)) {
		t.Fatalf("of %s: the blocks end at %d", textOf(code), at)
	}
}

func TestFlowCodes(t *testing.T) {
	for text, want := range map[string][2]int64{
		"j1":    {4, 0},
		"n j-1": {4, 0},
		// It names what is not there, and could run off its end, and has a block that cannot be come to.
		"n r j0 z9": {4, 0},
		"n":         {1, 0},
		"z0":        {1, 0},
		"g0":        {1, 0},
		"n n":       {1, 1},
		"j0 z0":     {1, 1},
		"r r n":     {1, 2},
		// It could run off its end, and a loop has two ways in.
		"z2 j2 j1 n":          {1, 3},
		"r r":                 {2, 1},
		"j0 r":                {2, 1},
		"j2 n j0":             {2, 1},
		"n j3 n r r r":        {2, 2},
		"n r n r j4":          {2, 2},
		"j3 n j1 r":           {2, 1},
		"j3 z1 r r":           {2, 1},
		"n j5 n j4 j3 r r":    {2, 2},
		"j0 j1 j2":            {2, 1},
		"z2 j2 j1 r":          {2, 3},
		"r j2 j1":             {2, 1},
		"z2 j2 j1":            {3, 1},
		"z2 g2 j1":            {3, 1},
		"z3 n z5 n j1 r":      {3, 1},
		"n z4 n n n j2":       {3, 2},
		"z2 n n z1 r":         {3, 1},
		"z2 z0 j1":            {3, 1},
		"g4 z3 n j4 j1":       {3, 1},
		"n r":                 {0, 0},
		"j0":                  {0, 0},
		"z0 r":                {0, 0},
		"n n n j1":            {0, 0},
		"z2 r r":              {0, 0},
		"z3 z2 j2 z2 j1":      {0, 0},
		"g3 z0 j1 z0 j3":      {0, 0},
		"n z1 z0 g5 j3 n j0":  {0, 0},
		"z3 n j1 n z3 n z3 r": {0, 0},
	} {
		code := codeOf(text)
		f := impl.FlowOf(code)
		if f.Code != want[0] || f.At != want[1] {
			t.Errorf("of %s: code %d at %d, not %d at %d", text, f.Code, f.At, want[0], want[1])
		}
		if f.Code != 0 && !sameAnswers(f, impl.Flow{Code: f.Code, At: f.At}) {
			t.Errorf("of %s: a code and more: %s", text, flowText(f))
		}
		checkFlow(t, code)
	}
}

func TestCodeMayNotRunOffItsEnd(t *testing.T) {
	for _, op := range allOps() {
		want := impl.Flow{Code: 1, At: 2}
		if op == impl.OpJump || op == impl.OpReturn {
			want = impl.Flow{}
		}
		f := impl.FlowOf([]impl.Instr{{}, {}, {Op: op}})
		if f.Code != want.Code || f.At != want.At {
			t.Errorf("with %d at last: %s", op, flowText(f))
		}
	}
}

func TestFlowOfSomeCode(t *testing.T) {
	for text, want := range map[string]string{
		"r":             "0-0>; order 0; idom -1; loops ",
		"j0":            "0-0>0; order 0; idom -1; loops 0<0:0",
		"n z4 n j5 n r": "0-1>1,2 2-3>3 4-4>3 5-5>; order 0,2,1,3; idom -1,0,0,0; loops ",
		"n n g5 n j2 r": "0-1>1 2-2>2,3 3-4>1 5-5>; order 0,1,3,2; idom -1,0,1,1; loops 1<2:1,2",
		"n z1 r":        "0-0>1 1-1>2,1 2-2>; order 0,1,2; idom -1,0,1; loops 1<1:1",
		// One within another.
		"g5 g4 n j1 j0 r": "0-0>1,4 1-1>2,3 2-3>1 4-4>0 5-5>; order 0,4,1,3,2; idom -1,0,1,1,0; loops 0<3:0,1,2,3 1<2:1,2",
		// Beside one another.
		"n g4 n j1 g6 j4 r": "0-0>1 1-1>2,3 2-3>1 4-4>4,5 5-5>3 6-6>; order 0,1,3,5,4,2; idom -1,0,1,1,3,3; loops 1<2:1,2 3<4:3,4",
		// One head and several backs, itself among them.
		"n z1 z1 n j1": "0-0>1 1-1>2,1 2-2>3,1 3-4>1; order 0,1,2,3; idom -1,0,1,2; loops 1<1,2,3:1,2,3",
		// The head stands behind its loop.
		"j3 n j3 z1 r": "0-0>2 1-2>2 3-3>3,1 4-4>; order 0,2,1,3; idom -1,2,0,2; loops 2<1:1,2",
	} {
		if got := flowText(impl.FlowOf(codeOf(text))); got != "code 0 at 0; "+want {
			t.Errorf("of %s: %s, not %s", text, got, want)
		}
	}
}

func TestFlowArgumentsAndMemory(t *testing.T) {
	odd := append(manyNops(4), impl.Instr{Op: -1, A: math.MinInt64, C: math.MaxInt64}, impl.Instr{Op: math.MaxInt64, C: -1}, ret())
	for _, text := range []string{"", "n", "j0", "j1", "r r", "z2 j2 j1", "n z4 n j5 n r", "g5 g4 n j1 j0 r", "n z1 z1 n j1", "j-1", "odd", "long"} {
		code := codeOf(text)
		switch text {
		case "odd":
			code = odd
		case "long":
			code = manyNops(impl.MaxCode + 1)
		}
		code = roomyOf(code)
		before := wholeOf(code)
		blocks, flow := impl.BlocksOf(code), impl.FlowOf(code)
		if !reflect.DeepEqual(before, wholeOf(code)) {
			t.Error("changed:", text)
		}
		checkOwnMemory(t, "BlocksOf "+text, blocks, code)
		checkOwnMemory(t, "FlowOf "+text, flow, code)
		for range 20 {
			if !sameAnswers(blocks, impl.BlocksOf(code)) || !sameAnswers(flow, impl.FlowOf(code)) {
				t.Error("another answer:", text)
			}
		}
	}
}

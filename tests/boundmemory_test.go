package tests

import (
	"fmt"
	"math"
	"reflect"
	"testing"

	"loop.example/s02548/impl"
)

// oddLoops are none of any function; some may lead a reader of them astray.
func oddLoops() []impl.Loop {
	return []impl.Loop{
		{},
		{Head: -1},
		{Head: math.MaxInt64, Back: []int64{math.MinInt64}, Blocks: []int64{math.MaxInt64}},
		{Head: math.MinInt64, Blocks: []int64{-1, 0, 1}},
		{Head: 1, Back: []int64{2}},
		{Head: 1, Blocks: []int64{1, 2}},
		{Head: 2, Back: []int64{1}, Blocks: []int64{1, 2}},
		{Head: 1, Back: []int64{2, 1 << 40}, Blocks: []int64{1, 2, 1 << 40}},
		{Head: 1, Back: make([]int64, 3000), Blocks: make([]int64, 3000)},
	}
}

func oddCosts() [][]int64 {
	return [][]int64{
		nil,
		{},
		{0},
		{0, 0, 0, 0, 0},
		{1, 2, 3, 4, 5, 6, 7, 8, 9, 10},
		{-1, -1, -1, -1, -1},
		{math.MaxInt64, math.MaxInt64, math.MaxInt64, math.MaxInt64, math.MaxInt64},
		{math.MinInt64, math.MinInt64, math.MinInt64, math.MinInt64, math.MinInt64},
		{impl.MaxCost, impl.MaxCost, impl.MaxCost, impl.MaxCost, impl.MaxCost},
		{impl.MaxCost + 1, 0, impl.MaxCost - 6, 0, 1 << 32},
		make([]int64, 3000),
	}
}

// boundPrograms has some that have a bound, and some by each code.
func boundPrograms() []impl.Program {
	list := append(oddPrograms()[:12], leastProgram(), someProgram(), fullProgram(), caller([]int64{0}), caller([]int64{1}, nil, []int64{1}))
	list = append(list, certified(counting, "h:3:6", "k:5:6"), certified(counting, "k:5:6"), certified("@h guard:3:@o j@h @o r", "h:3:6"))
	for _, x := range depthCases()[:12] {
		list = append(list, several(x.texts...))
	}
	for code := 3; code <= 8; code++ {
		text, _, _ := faultyText([]int{code}, 1, 2)
		list = append(list, several(text, bigText, tower(40)+"r"))
	}
	d := dice(71)
	for range 5 {
		list = append(list, d.certifiedProgram(false))
	}
	wrong := several("n n n r")
	wrong.Funcs[0].Code[1] = impl.Instr{Op: -1, A: math.MinInt64, B: math.MaxInt64, C: math.MaxInt64}
	unknown := several("n n n r")
	unknown.Funcs[0].Code[1] = impl.Instr{Op: impl.MaxOp + 1}
	astray := several("n n n r")
	astray.Certs = []impl.Cert{{Func: math.MaxInt64, Head: math.MinInt64, Counter: math.MaxInt64, Init: math.MaxUint32}}
	return append(list, wrong, unknown, astray)
}

func TestBoundArgumentsAndMemory(t *testing.T) {
	t.Parallel()
	for n, p := range boundPrograms() {
		p = roomyOf(p)
		before := wholeOf(p)
		first := impl.BoundOf(p)
		checkOwnMemory(t, fmt.Sprint("BoundOf ", n), first, p)
		if !sameAnswers(first, wantedBound(p)) {
			t.Errorf("program %d: %+v", n, first)
		}
		for range 20 {
			if !sameAnswers(impl.BoundOf(p), first) {
				t.Error("another answer of program", n)
			}
		}
		for _, f := range []int64{0, 1, 2, -1, math.MaxInt64, math.MinInt64} {
			checkLoopArguments(t, fmt.Sprint("program ", n, " function ", f), p, f)
			checkCostArguments(t, fmt.Sprint("program ", n, " function ", f), p, f)
		}
		if !reflect.DeepEqual(before, wholeOf(p)) {
			t.Error("changed: program", n)
		}
	}
}

func checkLoopArguments(t *testing.T, what string, p impl.Program, f int64) {
	t.Helper()
	loops := oddLoops()
	if within(f, len(p.Funcs)) {
		loops = append(loops, impl.FlowOf(p.Funcs[f].Code).Loops...)
	}
	for k, l := range loops {
		if len(l.Blocks) < 1000 {
			l = roomyOf(l)
		}
		before := wholeOf(l)
		first := impl.LoopFault(p, f, l)
		if first != wantedLoopFault(p, f, l) {
			t.Errorf("%s, loop %d: fault %d", what, k, first)
		}
		for range 5 {
			if impl.LoopFault(p, f, l) != first {
				t.Errorf("%s, loop %d: another answer", what, k)
			}
		}
		if !reflect.DeepEqual(before, wholeOf(l)) {
			t.Errorf("%s, loop %d: changed", what, k)
		}
	}
}

func checkCostArguments(t *testing.T, what string, p impl.Program, f int64) {
	t.Helper()
	for k, costs := range append(oddCosts(), impl.BoundOf(p).Costs) {
		if len(costs) < 1000 {
			costs = roomyOf(costs)
		}
		before := wholeOf(costs)
		first := impl.FuncCost(p, f, costs)
		if first != wantedCost(p, f, costs) {
			t.Errorf("%s, list %d: cost %d", what, k, first)
		}
		for range 5 {
			if impl.FuncCost(p, f, costs) != first {
				t.Errorf("%s, list %d: another answer", what, k)
			}
		}
		if !reflect.DeepEqual(before, wholeOf(costs)) {
			t.Errorf("%s, list %d: changed", what, k)
		}
	}
}

// What is done to an answer does not show in the next one.
func TestBoundsAnswerNewMemory(t *testing.T) {
	for n, p := range boundPrograms() {
		before := copyOf(p)
		first := impl.BoundOf(p)
		want := copyOf(first)
		for k := range first.Costs {
			first.Costs[k], first.Depths[k] = 77, 78
		}
		first.Costs, first.Depths = append(first.Costs, 79), append(first.Depths, 80)
		if !sameAnswers(impl.BoundOf(p), want) || !sameAnswers(p, before) {
			t.Error("an answer is kept: program", n)
		}
	}
}

// eachLooped visits all code of four instructions behind the setting of a counter, of those that matter to a loop.
func eachLooped(visit func(code []impl.Instr)) {
	code := append(worded("u storelocal:0"), make([]impl.Instr, 4)...)
	var choose func(at int)
	choose = func(at int) {
		if at == len(code) {
			visit(code)
			return
		}
		try := func(i impl.Instr) {
			code[at] = i
			choose(at + 1)
		}
		try(ret())
		if at < len(code)-1 {
			try(instr(impl.OpNop))
			try(instr(impl.OpStoreLocal, 0))
		}
		for to := range int64(len(code)) {
			try(instr(impl.OpJump, 0, 0, to))
			if at < len(code)-1 {
				try(instr(impl.OpGuard, 0, 0, to))
				try(instr(impl.OpGuard, 1, 0, to))
			}
		}
	}
	choose(2)
}

func TestLoopsOfAllShortCode(t *testing.T) {
	t.Parallel()
	faults, told, seen := map[int64]int{}, 0, 0
	eachLooped(func(code []impl.Instr) {
		flow := impl.FlowOf(code)
		if flow.Code != 0 || len(flow.Loops) == 0 {
			return
		}
		seen++
		p := several("r", "r")
		p.Funcs[1].Code = code
		for at := range code {
			p.Certs = append(p.Certs, impl.Cert{Func: 1, Head: int64(at), Counter: 0, Init: 6})
		}
		for _, l := range flow.Loops {
			got, want := impl.LoopFault(p, 1, l), wantedLoopFault(p, 1, l)
			if got != want {
				t.Fatalf("of %s: %s has the fault %d, not %d", textOf(code), loopsText([]impl.Loop{l}), got, want)
			}
			faults[got]++
		}
		got, want := impl.FuncCost(p, 1, nil), wantedCost(p, 1, nil)
		if got != want {
			t.Fatalf("of %s: cost %d, not %d", textOf(code), got, want)
		}
		if got >= 0 {
			told++
		}
	})
	if seen < 1000 || told < 10 || faults[0] < 10 || faults[2] < 100 || faults[3] < 50 || faults[4] < 50 || faults[5] < 50 {
		t.Error("seen", seen, "told", told, "faults", faults)
	}
}

// Programs at the limits are told soon too.
func TestBoundsOfLongCode(t *testing.T) {
	p := several("r")
	p.Funcs = nil
	for f := range impl.MaxFuncs {
		text := fmt.Sprintf("const:5 storelocal:0 @a guard:0:@ao const:4 storelocal:1 @b guard:1:@bo %s j@b @bo j@a @ao r", some("n", 1024-9))
		if f < impl.MaxFuncs-1 {
			text = fmt.Sprintf("const:5 storelocal:0 @a guard:0:@ao const:4 storelocal:1 @b guard:1:@bo call:%d %s j@b @bo j@a @ao r", f+1, some("n", 1024-10))
		}
		code, places := marked(text)
		if len(code) != impl.MaxCode {
			t.Fatal(len(code))
		}
		p.Funcs = append(p.Funcs, impl.Func{Locals: []int64{3, 3}, Code: code})
		p.Certs = append(p.Certs, impl.Cert{Func: int64(f), Head: places["a"], Counter: 0, Init: 2}, impl.Cert{Func: int64(f), Head: places["b"], Counter: 1, Init: 1})
	}
	// Each function costs about twice what the one behind it does: too much in the end.
	r := impl.BoundOf(p)
	if r.Code != 7 || r.Func < 5 || r.Func > 12 {
		t.Errorf("doubled: %+v", r)
	}
	for f := range p.Funcs {
		p.Certs[2*f].Init = 1
		p.Funcs[f].Code[0].A = 4
	}
	if r = impl.BoundOf(p); r.Code != 0 || r.Costs[31] >= r.Costs[30] || r.Depths[0] != 1 {
		t.Errorf("once: %+v", r)
	}
	// As many loops as there may be certificates, one within another.
	deep := impl.Func{Locals: make([]int64, impl.MaxLocals)}
	q := several("r")
	q.Certs = nil
	for n := range deep.Locals {
		deep.Locals[n] = impl.TypeUint
	}
	for n := range int64(impl.MaxLocals) {
		deep.Code = append(deep.Code, instr(impl.OpConst, 4), instr(impl.OpStoreLocal, n), instr(impl.OpGuard, n, 0, 4*impl.MaxLocals-n))
		q.Certs = append(q.Certs, impl.Cert{Head: 3*n + 2, Counter: n, Init: 1})
	}
	want := int64(0)
	for n := int64(impl.MaxLocals) - 1; n >= 0; n-- {
		deep.Code = append(deep.Code, instr(impl.OpJump, 0, 0, 3*n+2))
		want += 2 + 2 + 2 + 2
	}
	deep.Code = append(deep.Code, ret())
	q.Funcs[0] = deep
	if r = checkBound(t, "32 levels", q); r.Code != 0 || r.Costs[0] != want+2 {
		t.Errorf("32 levels: %+v, not %d", r, want+2)
	}
}

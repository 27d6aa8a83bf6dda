package tests

import (
	"math"
	"strings"
	"testing"

	"loop.example/s02548/impl"
)

// stackRule tells what an instruction takes and gives: b, i, u are types; A and B types that it names; l, c, k the type of its local, cell, constant; * is anything.
func stackRule(op int64) string {
	switch op {
	case impl.OpConst:
		return ">k"
	case impl.OpLoadLocal:
		return ">l"
	case impl.OpStoreLocal:
		return "l>"
	case impl.OpLoad:
		return ">c"
	case impl.OpStore:
		return "c>"
	case impl.OpLoadAt:
		return "u>c"
	case impl.OpStoreAt:
		return "uc>"
	case impl.OpAdd, impl.OpSub, impl.OpMul, impl.OpDiv, impl.OpMod, impl.OpAnd, impl.OpOr, impl.OpXor:
		return "AA>A"
	case impl.OpNot:
		return "A>A"
	case impl.OpShl, impl.OpShr:
		return "uu>u"
	case impl.OpNeg:
		return "i>i"
	case impl.OpEq, impl.OpLess:
		return "AA>b"
	case impl.OpConv:
		return "A>B"
	case impl.OpDup:
		return "*>**"
	case impl.OpDrop:
		return "*>"
	case impl.OpJumpZero:
		return "b>"
	}
	return ">"
}

// ruleTypes are the types of one side of a rule, 0 for anything.
func ruleTypes(p impl.Program, f impl.Func, i impl.Instr, side string) []int64 {
	var list []int64
	for _, letter := range side {
		var n int64
		switch letter {
		case 'b', 'i', 'u':
			n = int64(strings.IndexRune(" biu", letter))
		case 'A':
			n = i.A
		case 'B':
			n = i.B
		case 'l':
			n = append(append([]int64{}, f.Params...), f.Locals...)[i.A]
		case 'c':
			n = p.Regions[i.A][i.B]
		case 'k':
			n = p.Consts[i.A].Type
		}
		list = append(list, n)
	}
	return list
}

func wantedTakes(p impl.Program, f impl.Func, i impl.Instr) []int64 {
	if i.Op == impl.OpCall {
		return p.Funcs[i.A].Params
	}
	takes, _, _ := strings.Cut(stackRule(i.Op), ">")
	return ruleTypes(p, f, i, takes)
}

func wantedGives(p impl.Program, f impl.Func, i impl.Instr) []int64 {
	_, gives, _ := strings.Cut(stackRule(i.Op), ">")
	return ruleTypes(p, f, i, gives)
}

func goodValue(v impl.Value) bool {
	return v.Type >= 1 && v.Type <= 3 && (v.Type != 1 || v.Word < 2)
}

func goodValues(list []impl.Value, types []int64) bool {
	good := len(list) == len(types)
	for i := 0; good && i < len(list); i++ {
		good = goodValue(list[i]) && list[i].Type == types[i]
	}
	return good
}

// wantedShape: is the state in shape, as the document tells it?
func wantedShape(p impl.Program, s impl.State) bool {
	if impl.ProgramFault(p) != 0 || len(s.Frames) < 1 || len(s.Frames) > 32 || len(s.Cells) != 3 || len(s.Stack) > 64 {
		return false
	}
	good := s.Cost >= 0 && s.Cost <= 1<<62 && s.Steps >= 0 && s.Steps <= 1<<62
	for i, f := range s.Frames {
		if !within(f.Func, len(p.Funcs)) {
			return false
		}
		of := p.Funcs[f.Func]
		good = good && goodValues(f.Locals, append(append([]int64{}, of.Params...), of.Locals...))
		good = good && within(f.Base, len(s.Stack)+1) && (i == 0 || f.Base >= s.Frames[i-1].Base)
	}
	for i, cells := range s.Cells {
		good = good && goodValues(cells, p.Regions[i])
	}
	for _, v := range s.Stack {
		good = good && goodValue(v)
	}
	return good
}

// wantedTrap is the trap of an instruction, found ahead of doing it.
func wantedTrap(p impl.Program, s impl.State, i impl.Instr) int64 {
	f := s.Frames[len(s.Frames)-1]
	own := p.Funcs[f.Func]
	above := s.Stack[f.Base:]
	if i.Op == impl.OpReturn {
		just := len(above) == 0
		if own.Result != 0 {
			just = len(above) == 1 && above[0].Type == own.Result
		}
		if !just {
			return impl.TrapReturn
		}
		return 0
	}
	takes := wantedTakes(p, own, i)
	if len(takes) > len(above) {
		return impl.TrapFew
	}
	for k := range takes {
		if want := takes[len(takes)-1-k]; want != 0 && above[len(above)-1-k].Type != want {
			return impl.TrapType
		}
	}
	if i.Op == impl.OpGuard && f.Locals[i.A].Type != impl.TypeUint {
		return impl.TrapType
	}
	if i.Op == impl.OpCall && len(s.Frames) == 32 {
		return impl.TrapDepth
	}
	if len(s.Stack)-len(takes)+len(wantedGives(p, own, i)) > 64 {
		return impl.TrapFull
	}
	return 0
}

// wantedPush is the value that an instruction gives, of those taken.
func wantedPush(p impl.Program, s impl.State, i impl.Instr, taken []impl.Value) impl.Value {
	f := s.Frames[len(s.Frames)-1]
	switch i.Op {
	case impl.OpConst:
		return impl.Value{Type: p.Consts[i.A].Type, Word: p.Consts[i.A].Word}
	case impl.OpLoadLocal:
		return f.Locals[i.A]
	case impl.OpLoad:
		return s.Cells[i.A][i.B]
	case impl.OpLoadAt:
		return s.Cells[i.A][i.B+int64(taken[0].Word)%(i.C+1)]
	case impl.OpDup:
		return taken[0]
	case impl.OpConv:
		return impl.Value{Type: i.B, Word: impl.Convert(i.A, i.B, taken[0].Word)}
	}
	taken = append(taken, impl.Value{})
	word := impl.Compute(i.Op, i.A, taken[0].Word, taken[1].Word)
	return impl.Value{Type: wantedGives(p, p.Funcs[f.Func], i)[0], Word: word}
}

// wantedDone does an instruction that has no trap.
func wantedDone(p impl.Program, s *impl.State, i impl.Instr) {
	f := &s.Frames[len(s.Frames)-1]
	own := p.Funcs[f.Func]
	count := len(s.Stack) - len(wantedTakes(p, own, i))
	taken := append([]impl.Value{}, s.Stack[count:]...)
	s.Stack = s.Stack[:count]
	for range wantedGives(p, own, i) {
		s.Stack = append(s.Stack, wantedPush(p, *s, i, taken))
	}
	f.At++
	switch i.Op {
	case impl.OpStoreLocal:
		f.Locals[i.A] = taken[0]
	case impl.OpStore:
		s.Cells[i.A][i.B] = taken[0]
	case impl.OpStoreAt:
		s.Cells[i.A][i.B+int64(taken[0].Word)%(i.C+1)] = taken[1]
	case impl.OpJump:
		f.At = i.C
	case impl.OpJumpZero:
		if taken[0].Word == 0 {
			f.At = i.C
		}
	case impl.OpGuard:
		if f.Locals[i.A].Word == 0 {
			f.At = i.C
		} else {
			f.Locals[i.A].Word--
		}
	case impl.OpCall:
		for _, local := range p.Funcs[i.A].Locals {
			taken = append(taken, impl.Value{Type: local})
		}
		s.Frames = append(s.Frames, impl.Frame{Func: i.A, Base: int64(count), Locals: taken})
	case impl.OpReturn:
		s.Frames = s.Frames[:len(s.Frames)-1]
		s.Done = len(s.Frames) == 0
	}
}

// wantedStep is what the document asks of one step.
func wantedStep(p impl.Program, s impl.State) impl.State {
	s = copyOf(s)
	if s.Trap != 0 || s.Done {
		return s
	}
	if !wantedShape(p, s) {
		s.Trap = impl.TrapBad
		return s
	}
	f := s.Frames[len(s.Frames)-1]
	code := p.Funcs[f.Func].Code
	if !within(f.At, len(code)) {
		s.Trap = impl.TrapJump
		return s
	}
	s.Steps++
	s.Cost += instructionTable()[code[f.At].Op].info.Cost
	s.Trap = wantedTrap(p, s, code[f.At])
	if s.Trap == 0 {
		wantedDone(p, &s, code[f.At])
	}
	return s
}

// runCase is a program with a memory, and the trap (0: none) that it comes to within so many steps.
type runCase struct {
	name  string
	p     impl.Program
	m     impl.Memory
	trap  int64
	steps int64
}

func oneFunc(code ...impl.Instr) impl.Program {
	return impl.Program{
		Regions: [][]int64{{1, 3}, {3, 3, 3, 3}, {2}},
		Consts:  []impl.Const{{Type: 3, Word: 5}, {Type: 2, Word: 9}, {Type: 1, Word: 1}},
		Funcs:   []impl.Func{{Locals: []int64{3, 2, 1}, Code: code}},
	}
}

func oneMemory() impl.Memory {
	return impl.Memory{In: []uint32{6, 7}, Out: []uint32{1, 2, 3, 4}, Keep: []uint32{5}}
}

// factorial has a function that calls itself: of n it gives n * the one of n - 1, of 0 it gives 1.
func factorial(n uint32) impl.Program {
	p := oneFunc(instr(impl.OpConst, 0), instr(impl.OpCall, 1), instr(impl.OpStore, 1, 3), ret())
	p.Consts = []impl.Const{{Type: 3, Word: n}, {Type: 3, Word: 1}}
	p.Funcs = append(p.Funcs, impl.Func{Params: []int64{3}, Result: 3, Locals: []int64{3}, Code: []impl.Instr{
		instr(impl.OpLoadLocal, 0), instr(impl.OpStoreLocal, 1), instr(impl.OpGuard, 0, 0, 7),
		instr(impl.OpLoadLocal, 1), instr(impl.OpLoadLocal, 0), instr(impl.OpCall, 1), instr(impl.OpJump, 0, 0, 9),
		instr(impl.OpConst, 1), ret(),
		instr(impl.OpMul, 3), ret(),
	}})
	return p
}

// filling pushes a value around and around.
func filling() impl.Program {
	return oneFunc(instr(impl.OpConst, 1), instr(impl.OpDup), instr(impl.OpJump, 0, 0, 1))
}

func runCases() []runCase {
	count := []impl.Instr{instr(impl.OpConst, 0), instr(impl.OpStoreLocal, 0), instr(impl.OpGuard, 0, 0, 9),
		instr(impl.OpLoadLocal, 0), instr(impl.OpLoad, 1, 0), instr(impl.OpLoad, 0, 1), instr(impl.OpMul, 3), instr(impl.OpStoreAt, 1, 0, 3), instr(impl.OpJump, 0, 0, 2), ret()}
	deep := oneFunc(instr(impl.OpCall, 0))
	badResult := oneFunc(instr(impl.OpCall, 1), ret())
	badResult.Funcs = append(badResult.Funcs, impl.Func{Result: 2, Code: []impl.Instr{instr(impl.OpConst, 0), ret()}})
	return []runCase{
		{"nothing", leastProgram(), impl.Memory{}, 0, 1},
		{"a loop", oneFunc(count...), oneMemory(), 0, 2 + 5*7 + 1 + 1},
		{"calls", factorial(7), oneMemory(), 0, 2 + 7*9 + 5 + 2},
		{"a call too deep", factorial(31), oneMemory(), impl.TrapDepth, 2 + 30*6 + 6},
		{"as deep as can be", factorial(30), oneMemory(), 0, 2 + 30*9 + 5 + 2},
		{"calls without end", deep, oneMemory(), impl.TrapDepth, impl.MaxDepth},
		{"a stack that fills", filling(), oneMemory(), impl.TrapFull, 1 + 2*63 + 1},
		{"off the end", oneFunc(instr(impl.OpNop), instr(impl.OpNop)), oneMemory(), impl.TrapJump, 2},
		{"too few", oneFunc(instr(impl.OpConst, 0), instr(impl.OpAdd, 3), ret()), oneMemory(), impl.TrapFew, 2},
		{"a type", oneFunc(instr(impl.OpConst, 0), instr(impl.OpStore, 2, 0), ret()), oneMemory(), impl.TrapType, 2},
		{"a guard of an int", oneFunc(instr(impl.OpGuard, 1, 0, 0), ret()), oneMemory(), impl.TrapType, 1},
		{"a result where none is", oneFunc(instr(impl.OpConst, 0), ret()), oneMemory(), impl.TrapReturn, 2},
		{"another result", badResult, oneMemory(), impl.TrapReturn, 3},
		{"not valid", oneFunc(ret()), impl.Memory{}, impl.TrapBad, 0},
		{"a fault", oneFunc(), oneMemory(), impl.TrapBad, 0},
	}
}

// checkRun: a run is its steps one by one, with every limit up to some beyond its end or last.
func checkRun(t *testing.T, what string, p impl.Program, m impl.Memory, last int64) impl.State {
	t.Helper()
	s := impl.Begin(p, m)
	for _, limit := range []int64{math.MinInt64, -1, 0} {
		if !sameAnswers(impl.Run(p, m, limit), s) {
			t.Error(what, "goes on with the limit", limit)
		}
	}
	for limit := int64(1); limit <= last; limit++ {
		over := s.Trap != 0 || s.Done
		next := impl.StepOnce(p, s)
		if !sameAnswers(next, wantedStep(p, s)) {
			t.Fatalf("%s: step %d: %s, not %s", what, limit, brief(next), brief(wantedStep(p, s)))
		}
		if over && !sameAnswers(next, s) {
			t.Fatal(what, "goes on behind its end")
		}
		s = next
		if got := impl.Run(p, m, limit); !sameAnswers(got, s) {
			t.Fatalf("%s: limit %d: %s, not %s", what, limit, brief(got), brief(s))
		}
	}
	return s
}

func TestRunIsItsSteps(t *testing.T) {
	for _, c := range runCases() {
		s := checkRun(t, c.name, c.p, c.m, c.steps+3)
		if s.Trap != c.trap || s.Steps != c.steps || s.Done != (c.trap == 0) {
			t.Error(c.name, "trap", s.Trap, "steps", s.Steps, "done", s.Done)
		}
		for _, limit := range []int64{1 << 20, 1<<20 + 1, 1 << 32, 1<<32 + 1, math.MaxInt64} {
			if !sameAnswers(impl.Run(c.p, c.m, limit), s) {
				t.Error(c.name, "ends otherwise with the limit", limit)
			}
		}
	}
}

func TestRunOfFactorials(t *testing.T) {
	product := uint32(1)
	for n := range uint32(31) {
		product *= max(n, 1)
		s := impl.Run(factorial(n), oneMemory(), 1000)
		if x := impl.MemoryOf(s); !s.Done || len(x.Out) != 4 || x.Out[3] != product || x.Out[0] != 1 || x.In[0] != 1 {
			t.Error(n, s.Trap, x)
		}
	}
}

func TestRunEndsAtItsMost(t *testing.T) {
	const most = 1 << 20
	p := oneFunc(instr(impl.OpLoad, 1, 0), instr(impl.OpConst, 0), instr(impl.OpAdd, 3), instr(impl.OpStore, 1, 0), instr(impl.OpJump))
	for _, limit := range []int64{most - 1, most, most + 1, 1 << 32, math.MaxInt64} {
		s := impl.Run(p, oneMemory(), limit)
		steps := min(limit, most)
		// Of each five steps the fourth one stores.
		stored := uint32(1 + 5*((steps+1)/5))
		if s.Trap != 0 || s.Done || s.Steps != steps || s.Frames[0].At != steps%5 || s.Cells[1][0] != uintOf(stored) {
			t.Error(limit, s.Trap, s.Steps, s.Frames[0].At, s.Cells[1][0])
		}
	}
}

// ending counts down from n, and so comes to its end in 2*n + 4 steps.
func ending(n uint32) impl.Program {
	p := oneFunc(instr(impl.OpConst, 0), instr(impl.OpStoreLocal, 0), instr(impl.OpGuard, 0, 0, 4), instr(impl.OpJump, 0, 0, 2), ret())
	p.Consts[0].Word = n
	return p
}

func TestRunThatEndsAtItsMost(t *testing.T) {
	const n = (1<<20 - 4) / 2
	if s := impl.Run(ending(n), oneMemory(), math.MaxInt64); !s.Done || s.Steps != 1<<20 {
		t.Error("just in time", s.Done, s.Steps)
	}
	if s := impl.Run(ending(n), oneMemory(), 1<<20-1); s.Done || s.Steps != 1<<20-1 {
		t.Error("a step ahead", s.Done, s.Steps)
	}
	s := impl.Run(ending(n+1), oneMemory(), math.MaxInt64)
	if s.Done || s.Steps != 1<<20 || s.Trap != 0 {
		t.Error("too late", s.Done, s.Steps)
	}
	for range 2 {
		s = impl.StepOnce(ending(n+1), s)
	}
	if !s.Done || s.Steps != 1<<20+2 {
		t.Error("steps go on beyond", s.Done, s.Steps)
	}
}

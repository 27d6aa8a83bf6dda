package tests

import (
	"fmt"
	"testing"

	"loop.example/s02548/impl"
)

func boolOf(w uint32) impl.Value { return impl.Value{Type: impl.TypeBool, Word: w} }
func intOf(w uint32) impl.Value  { return impl.Value{Type: impl.TypeInt, Word: w} }
func uintOf(w uint32) impl.Value { return impl.Value{Type: impl.TypeUint, Word: w} }

func values(list ...impl.Value) []impl.Value { return list }

// workshop is a program whose function 1 has the instruction at its place 2.
func workshop(i impl.Instr) impl.Program {
	return impl.Program{
		Regions: [][]int64{{1, 2, 3, 3}, {1, 2, 3, 3, 3, 3, 1, 1}, {2, 2, 3, 1}},
		Consts:  []impl.Const{{Type: 1, Word: 1}, {Type: 2, Word: 0xfffffff9}, {Type: 3, Word: 6}},
		Funcs: []impl.Func{
			{Locals: []int64{1}, Code: []impl.Instr{{Op: impl.OpCall, A: 1}, ret()}},
			{Params: []int64{2, 3}, Result: 3, Locals: []int64{1, 3, 2}, Code: []impl.Instr{{}, {}, i, {}, ret()}},
			{Params: []int64{2, 3, 1}, Result: 2, Locals: []int64{3, 1}, Code: []impl.Instr{ret()}},
			{Code: []impl.Instr{ret()}},
			{Result: 1, Locals: []int64{2}, Code: []impl.Instr{ret()}},
		},
	}
}

// atWork is a state of a workshop ahead of the instruction, with these values above the base and two below it.
func atWork(above ...impl.Value) impl.State {
	return impl.State{
		Cost:  1000,
		Steps: 70,
		Cells: [][]impl.Value{
			{boolOf(1), intOf(0xfffffffb), uintOf(8), uintOf(9)},
			{boolOf(0), intOf(20), uintOf(30), uintOf(31), uintOf(32), uintOf(33), boolOf(1), boolOf(0)},
			{intOf(40), intOf(41), uintOf(42), boolOf(1)},
		},
		Stack: append([]impl.Value{uintOf(77), boolOf(1)}, above...),
		Frames: []impl.Frame{
			{Func: 0, At: 1, Base: 0, Locals: values(boolOf(1))},
			{Func: 1, At: 2, Base: 2, Locals: values(intOf(50), uintOf(51), boolOf(1), uintOf(53), intOf(54))},
		},
	}
}

// stepCase is an instruction done once: what it takes (the top one last), what it gives, its cost, and what else it changes.
type stepCase struct {
	name  string
	i     impl.Instr
	takes []impl.Value
	gives []impl.Value
	cost  int64
	more  func(s *impl.State)
}

func instr(op int64, abc ...int64) impl.Instr {
	abc = append(abc, 0, 0, 0)
	return impl.Instr{Op: op, A: abc[0], B: abc[1], C: abc[2]}
}

func setLocal(number int, v impl.Value) func(s *impl.State) {
	return func(s *impl.State) { s.Frames[1].Locals[number] = v }
}

func setCell(region int, cell int, v impl.Value) func(s *impl.State) {
	return func(s *impl.State) { s.Cells[region][cell] = v }
}

func setPlace(at int64) func(s *impl.State) {
	return func(s *impl.State) { s.Frames[1].At = at }
}

func stepCases() []stepCase {
	list := append(cellCases(), computeCases()...)
	return append(list, jumpCases()...)
}

func cellCases() []stepCase {
	return []stepCase{
		{"nop", instr(impl.OpNop), nil, nil, 1, nil},
		{"const of bool", instr(impl.OpConst, 0), nil, values(boolOf(1)), 1, nil},
		{"const of int", instr(impl.OpConst, 1), nil, values(intOf(0xfffffff9)), 1, nil},
		{"const of uint", instr(impl.OpConst, 2), nil, values(uintOf(6)), 1, nil},
		{"loadlocal of a parameter", instr(impl.OpLoadLocal, 0), nil, values(intOf(50)), 1, nil},
		{"loadlocal of the last parameter", instr(impl.OpLoadLocal, 1), nil, values(uintOf(51)), 1, nil},
		{"loadlocal of the first local", instr(impl.OpLoadLocal, 2), nil, values(boolOf(1)), 1, nil},
		{"loadlocal of the last local", instr(impl.OpLoadLocal, 4), nil, values(intOf(54)), 1, nil},
		{"storelocal of a parameter", instr(impl.OpStoreLocal, 0), values(intOf(5)), nil, 1, setLocal(0, intOf(5))},
		{"storelocal of the last parameter", instr(impl.OpStoreLocal, 1), values(uintOf(6)), nil, 1, setLocal(1, uintOf(6))},
		{"storelocal of the first local", instr(impl.OpStoreLocal, 2), values(boolOf(0)), nil, 1, setLocal(2, boolOf(0))},
		{"storelocal of the last local", instr(impl.OpStoreLocal, 4), values(intOf(7)), nil, 1, setLocal(4, intOf(7))},
		{"load of an input", instr(impl.OpLoad, 0, 1), nil, values(intOf(0xfffffffb)), 2, nil},
		{"load of an output", instr(impl.OpLoad, 1, 7), nil, values(boolOf(0)), 2, nil},
		{"load of what is kept", instr(impl.OpLoad, 2, 2), nil, values(uintOf(42)), 2, nil},
		{"store to an output", instr(impl.OpStore, 1, 0), values(boolOf(1)), nil, 2, setCell(1, 0, boolOf(1))},
		{"store to what is kept", instr(impl.OpStore, 2, 1), values(intOf(9)), nil, 2, setCell(2, 1, intOf(9))},
		{"loadat of one cell", instr(impl.OpLoadAt, 0, 1, 0), values(uintOf(0xffffffff)), values(intOf(0xfffffffb)), 3, nil},
		{"loadat of the first", instr(impl.OpLoadAt, 1, 2, 3), values(uintOf(0)), values(uintOf(30)), 3, nil},
		{"loadat of the last", instr(impl.OpLoadAt, 1, 2, 3), values(uintOf(3)), values(uintOf(33)), 3, nil},
		{"loadat above the mask", instr(impl.OpLoadAt, 1, 2, 3), values(uintOf(6)), values(uintOf(32)), 3, nil},
		{"loadat far above the mask", instr(impl.OpLoadAt, 1, 2, 3), values(uintOf(0xfffffffd)), values(uintOf(31)), 3, nil},
		{"loadat of what is kept", instr(impl.OpLoadAt, 2, 0, 1), values(uintOf(0x80000001)), values(intOf(41)), 3, nil},
		{"storeat of one cell", instr(impl.OpStoreAt, 2, 3, 0), values(uintOf(5), boolOf(0)), nil, 3, setCell(2, 3, boolOf(0))},
		{"storeat of the first", instr(impl.OpStoreAt, 1, 2, 3), values(uintOf(0), uintOf(7)), nil, 3, setCell(1, 2, uintOf(7))},
		{"storeat of the last", instr(impl.OpStoreAt, 1, 2, 3), values(uintOf(3), uintOf(7)), nil, 3, setCell(1, 5, uintOf(7))},
		{"storeat above the mask", instr(impl.OpStoreAt, 1, 2, 3), values(uintOf(5), uintOf(6)), nil, 3, setCell(1, 3, uintOf(6))},
		{"storeat far above the mask", instr(impl.OpStoreAt, 1, 6, 1), values(uintOf(0xffffffff), boolOf(1)), nil, 3, setCell(1, 7, boolOf(1))},
		{"dup of bool", instr(impl.OpDup), values(boolOf(0)), values(boolOf(0), boolOf(0)), 1, nil},
		{"dup of int", instr(impl.OpDup), values(intOf(4)), values(intOf(4), intOf(4)), 1, nil},
		{"dup of uint", instr(impl.OpDup), values(uintOf(4)), values(uintOf(4), uintOf(4)), 1, nil},
		{"drop of bool", instr(impl.OpDrop), values(boolOf(0)), nil, 1, nil},
		{"drop of int", instr(impl.OpDrop), values(intOf(4)), nil, 1, nil},
		{"drop of uint", instr(impl.OpDrop), values(uintOf(4)), nil, 1, nil},
	}
}

func computeCases() []stepCase {
	return []stepCase{
		{"add of int", instr(impl.OpAdd, 2), values(intOf(0xffffffff), intOf(3)), values(intOf(2)), 1, nil},
		{"add of uint", instr(impl.OpAdd, 3), values(uintOf(4), uintOf(3)), values(uintOf(7)), 1, nil},
		{"sub of int", instr(impl.OpSub, 2), values(intOf(3), intOf(5)), values(intOf(0xfffffffe)), 1, nil},
		{"sub of uint", instr(impl.OpSub, 3), values(uintOf(7), uintOf(3)), values(uintOf(4)), 1, nil},
		{"mul of int", instr(impl.OpMul, 2), values(intOf(0xffffffff), intOf(3)), values(intOf(0xfffffffd)), 3, nil},
		{"mul of uint", instr(impl.OpMul, 3), values(uintOf(7), uintOf(3)), values(uintOf(21)), 3, nil},
		{"div of int", instr(impl.OpDiv, 2), values(intOf(0xfffffff9), intOf(2)), values(intOf(0xfffffffd)), 8, nil},
		{"div of uint", instr(impl.OpDiv, 3), values(uintOf(0xfffffff9), uintOf(2)), values(uintOf(0x7ffffffc)), 8, nil},
		{"div by 0", instr(impl.OpDiv, 3), values(uintOf(5), uintOf(0)), values(uintOf(0)), 8, nil},
		{"div of the least int", instr(impl.OpDiv, 2), values(intOf(0x80000000), intOf(0xffffffff)), values(intOf(0x80000000)), 8, nil},
		{"mod of int", instr(impl.OpMod, 2), values(intOf(0xfffffff9), intOf(4)), values(intOf(0xfffffffd)), 8, nil},
		{"mod of uint", instr(impl.OpMod, 3), values(uintOf(0xfffffff9), uintOf(4)), values(uintOf(1)), 8, nil},
		{"and of bool", instr(impl.OpAnd, 1), values(boolOf(1), boolOf(0)), values(boolOf(0)), 1, nil},
		{"and of uint", instr(impl.OpAnd, 3), values(uintOf(12), uintOf(10)), values(uintOf(8)), 1, nil},
		{"or of bool", instr(impl.OpOr, 1), values(boolOf(1), boolOf(0)), values(boolOf(1)), 1, nil},
		{"or of uint", instr(impl.OpOr, 3), values(uintOf(12), uintOf(10)), values(uintOf(14)), 1, nil},
		{"xor of bool", instr(impl.OpXor, 1), values(boolOf(1), boolOf(1)), values(boolOf(0)), 1, nil},
		{"xor of uint", instr(impl.OpXor, 3), values(uintOf(12), uintOf(10)), values(uintOf(6)), 1, nil},
		{"not of true", instr(impl.OpNot, 1), values(boolOf(1)), values(boolOf(0)), 1, nil},
		{"not of false", instr(impl.OpNot, 1), values(boolOf(0)), values(boolOf(1)), 1, nil},
		{"not of uint", instr(impl.OpNot, 3), values(uintOf(5)), values(uintOf(0xfffffffa)), 1, nil},
		{"shl", instr(impl.OpShl), values(uintOf(3), uintOf(33)), values(uintOf(6)), 1, nil},
		{"shr", instr(impl.OpShr), values(uintOf(0x80000000), uintOf(4)), values(uintOf(0x8000000)), 1, nil},
		{"neg", instr(impl.OpNeg), values(intOf(5)), values(intOf(0xfffffffb)), 1, nil},
		{"eq of bool", instr(impl.OpEq, 1), values(boolOf(0), boolOf(0)), values(boolOf(1)), 1, nil},
		{"eq of int", instr(impl.OpEq, 2), values(intOf(4), intOf(5)), values(boolOf(0)), 1, nil},
		{"eq of uint", instr(impl.OpEq, 3), values(uintOf(9), uintOf(9)), values(boolOf(1)), 1, nil},
		{"less of int", instr(impl.OpLess, 2), values(intOf(0xffffffff), intOf(0)), values(boolOf(1)), 1, nil},
		{"less of uint", instr(impl.OpLess, 3), values(uintOf(0xffffffff), uintOf(0)), values(boolOf(0)), 1, nil},
		{"less of what is below", instr(impl.OpLess, 3), values(uintOf(3), uintOf(4)), values(boolOf(1)), 1, nil},
		{"conv of bool to int", instr(impl.OpConv, 1, 2), values(boolOf(1)), values(intOf(1)), 1, nil},
		{"conv of bool to uint", instr(impl.OpConv, 1, 3), values(boolOf(0)), values(uintOf(0)), 1, nil},
		{"conv of int to bool", instr(impl.OpConv, 2, 1), values(intOf(0x80000000)), values(boolOf(1)), 1, nil},
		{"conv of int to uint", instr(impl.OpConv, 2, 3), values(intOf(0xffffffff)), values(uintOf(0xffffffff)), 1, nil},
		{"conv of uint to bool", instr(impl.OpConv, 3, 1), values(uintOf(2)), values(boolOf(1)), 1, nil},
		{"conv of 0 to bool", instr(impl.OpConv, 3, 1), values(uintOf(0)), values(boolOf(0)), 1, nil},
		{"conv of uint to int", instr(impl.OpConv, 3, 2), values(uintOf(7)), values(intOf(7)), 1, nil},
	}
}

func jumpCases() []stepCase {
	less := func(s *impl.State) { s.Frames[1].Locals[1].Word = 50 }
	return []stepCase{
		{"jump ahead", instr(impl.OpJump, 0, 0, 4), nil, nil, 2, setPlace(4)},
		{"jump back", instr(impl.OpJump, 0, 0, 0), nil, nil, 2, setPlace(0)},
		{"jump to itself", instr(impl.OpJump, 0, 0, 2), nil, nil, 2, setPlace(2)},
		{"jumpzero taken", instr(impl.OpJumpZero, 0, 0, 0), values(boolOf(0)), nil, 2, setPlace(0)},
		{"jumpzero taken ahead", instr(impl.OpJumpZero, 0, 0, 4), values(boolOf(0)), nil, 2, setPlace(4)},
		{"jumpzero not taken", instr(impl.OpJumpZero, 0, 0, 0), values(boolOf(1)), nil, 2, nil},
		{"guard of a parameter", instr(impl.OpGuard, 1, 0, 0), nil, nil, 2, less},
		{"call without anything", instr(impl.OpCall, 3), nil, nil, 4, func(s *impl.State) {
			s.Frames = append(s.Frames, impl.Frame{Func: 3, Base: int64(len(s.Stack))})
		}},
		{"call with a result", instr(impl.OpCall, 4), nil, nil, 4, func(s *impl.State) {
			s.Frames = append(s.Frames, impl.Frame{Func: 4, Base: int64(len(s.Stack)), Locals: values(intOf(0))})
		}},
		{"call with parameters", instr(impl.OpCall, 2), values(intOf(11), uintOf(12), boolOf(1)), nil, 4, func(s *impl.State) {
			s.Frames = append(s.Frames, impl.Frame{Func: 2, Base: int64(len(s.Stack)), Locals: values(intOf(11), uintOf(12), boolOf(1), uintOf(0), boolOf(0))})
		}},
		{"call of the function itself", instr(impl.OpCall, 1), values(intOf(11), uintOf(12)), nil, 4, func(s *impl.State) {
			s.Frames = append(s.Frames, impl.Frame{Func: 1, Base: int64(len(s.Stack)), Locals: values(intOf(11), uintOf(12), boolOf(0), uintOf(0), intOf(0))})
		}},
	}
}

// brief tells what matters most of a state.
func brief(s impl.State) string {
	top := s.Stack[max(len(s.Stack)-3, 0):]
	last := s.Frames[max(len(s.Frames)-1, 0):]
	return fmt.Sprintf("trap %d, done %t, cost %d, steps %d, %d values %v, %d frames %+v", s.Trap, s.Done, s.Cost, s.Steps, len(s.Stack), top, len(s.Frames), last)
}

// checkStep: one step from before leads to want, and changes neither the program nor the state.
func checkStep(t *testing.T, what string, p impl.Program, before impl.State, want impl.State) {
	t.Helper()
	program, state := roomyOf(p), roomyOf(before)
	programBefore, stateBefore := wholeOf(program), wholeOf(state)
	got := impl.StepOnce(program, state)
	if !sameAnswers(got, want) {
		t.Errorf("%s: %s, not %s", what, brief(got), brief(want))
	}
	if !sameAnswers(wholeOf(program), programBefore) || !sameAnswers(wholeOf(state), stateBefore) {
		t.Errorf("%s: an argument was changed", what)
	}
	checkOwnMemory(t, what, got, program, state)
}

// behind is the state that a case leads to from one with these values above the base.
func (c stepCase) behind(left ...impl.Value) impl.State {
	want := atWork(append(copyOf(left), c.gives...)...)
	want.Steps++
	want.Cost += c.cost
	want.Frames[1].At++
	if c.more != nil {
		c.more(&want)
	}
	return want
}

func TestStepOfEachInstruction(t *testing.T) {
	seen := map[int64]int{}
	for _, c := range stepCases() {
		seen[c.i.Op]++
		p := workshop(c.i)
		checkStep(t, c.name, p, atWork(c.takes...), c.behind())
		for _, v := range values(boolOf(1), intOf(3), uintOf(3)) {
			checkStep(t, c.name+" with more below", p, atWork(append(values(v, v), c.takes...)...), c.behind(v, v))
		}
	}
	for op := range int64(impl.MaxOp) {
		if seen[op] == 0 {
			t.Error("no case of", impl.Info(op).Name)
		}
	}
}

func TestStepOfAGuard(t *testing.T) {
	p := workshop(instr(impl.OpGuard, 3, 0, 4))
	for _, c := range []struct {
		word  uint32
		after uint32
		at    int64
	}{{0, 0, 4}, {1, 0, 3}, {2, 1, 3}, {7, 6, 3}, {0x80000000, 0x7fffffff, 3}, {0xffffffff, 0xfffffffe, 3}} {
		before, want := atWork(), atWork()
		before.Frames[1].Locals[3].Word = c.word
		want.Frames[1].Locals[3].Word = c.after
		want.Frames[1].At = c.at
		want.Steps, want.Cost = 71, 1002
		checkStep(t, "guard", p, before, want)
	}
	back := workshop(instr(impl.OpGuard, 3, 0, 0))
	before, want := atWork(), atWork()
	before.Frames[1].Locals[3].Word, want.Frames[1].Locals[3].Word = 0, 0
	want.Frames[1].At, want.Steps, want.Cost = 0, 71, 1002
	checkStep(t, "guard back", back, before, want)
}

func TestStepOfAReturn(t *testing.T) {
	p := workshop(ret())
	want := atWork(uintOf(5))
	want.Frames = want.Frames[:1]
	want.Steps, want.Cost = 71, 1002
	checkStep(t, "return with a result", p, atWork(uintOf(5)), want)

	p.Funcs[1].Result = 0
	want.Stack = want.Stack[:2]
	checkStep(t, "return with none", p, atWork(), want)

	before := atWork()
	before.Frames = before.Frames[1:]
	want.Frames, want.Done = nil, true
	checkStep(t, "the last return", p, before, want)

	p.Funcs[1].Result = impl.TypeInt
	before.Stack = append(before.Stack, intOf(4))
	want.Stack = append(want.Stack, intOf(4))
	checkStep(t, "the last return with a result", p, before, want)
}

// A call at the end of its code has its place behind the code; what it called goes on all the same.
func TestStepOfACallAtTheEnd(t *testing.T) {
	p := workshop(instr(impl.OpCall, 3))
	p.Funcs[1].Code = p.Funcs[1].Code[:3]
	s := impl.StepOnce(p, atWork())
	if s.Trap != 0 || len(s.Frames) != 3 || s.Frames[1].At != 3 || s.Frames[2].At != 0 {
		t.Fatal(s.Trap, s.Frames)
	}
	s = impl.StepOnce(p, s)
	if s.Trap != 0 || len(s.Frames) != 2 || s.Steps != 72 {
		t.Fatal(s.Trap, s.Frames)
	}
	want := copyOf(s)
	want.Trap = impl.TrapJump
	checkStep(t, "behind the end", p, s, want)
}

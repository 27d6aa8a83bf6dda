package tests

import (
	"math"
	"testing"

	"loop.example/s02548/impl"
)

// checkTrap: at the trap all stays as it was, but for Steps, Cost (by so much) and Trap.
func checkTrap(t *testing.T, what string, p impl.Program, before impl.State, trap int64, cost int64) {
	t.Helper()
	want := copyOf(before)
	want.Trap = trap
	if trap != impl.TrapJump && trap != impl.TrapBad {
		want.Steps++
		want.Cost += cost
	}
	checkStep(t, what, p, before, want)
	checkStep(t, what+", which stays", p, want, want)
}

// lifted sets the base of the last frame above so many of the values that stand above it.
func lifted(s impl.State, by int) impl.State {
	s.Frames[len(s.Frames)-1].Base += int64(by)
	return s
}

func otherTypes(v impl.Value) []impl.Value {
	var list []impl.Value
	for _, other := range values(boolOf(v.Word&1), intOf(v.Word), uintOf(v.Word)) {
		if other.Type != v.Type {
			list = append(list, other)
		}
	}
	return list
}

func TestTrapFew(t *testing.T) {
	seen := 0
	for _, c := range stepCases() {
		p := workshop(c.i)
		for n := range c.takes {
			seen++
			checkTrap(t, c.name+" with too few", p, atWork(c.takes[len(c.takes)-n:]...), impl.TrapFew, c.cost)
			checkTrap(t, c.name+" with the rest below the base", p, lifted(atWork(c.takes...), len(c.takes)-n), impl.TrapFew, c.cost)
		}
	}
	if seen < 60 {
		t.Error("cases", seen)
	}
}

func TestTrapType(t *testing.T) {
	seen := 0
	for _, c := range stepCases() {
		if c.i.Op == impl.OpDup || c.i.Op == impl.OpDrop {
			continue
		}
		p := workshop(c.i)
		for n := range c.takes {
			for _, v := range otherTypes(c.takes[n]) {
				seen++
				stack := append(values(), c.takes...)
				stack[n] = v
				checkTrap(t, c.name+" of another type", p, atWork(stack...), impl.TrapType, c.cost)
				checkTrap(t, c.name+" of another type, with more below", p, atWork(append(values(c.takes[n]), stack...)...), impl.TrapType, c.cost)
			}
		}
	}
	if seen < 120 {
		t.Error("cases", seen)
	}
}

func TestTrapTypeOfAGuard(t *testing.T) {
	for _, local := range []int64{0, 2, 4} {
		p := workshop(instr(impl.OpGuard, local, 0, 4))
		for _, word := range []uint32{0, 1} {
			s := atWork(uintOf(3))
			s.Frames[1].Locals[local].Word = word
			checkTrap(t, "guard of a local that is no uint", p, s, impl.TrapType, 2)
		}
	}
}

// filled is at work with a stack of this height, these values on top.
func filled(height int, top ...impl.Value) impl.State {
	s := atWork()
	for len(s.Stack) < height-len(top) {
		s.Stack = append(s.Stack, intOf(uint32(len(s.Stack))))
	}
	s.Stack = append(s.Stack, top...)
	return s
}

func TestTrapFull(t *testing.T) {
	full := map[int64]int{}
	for _, c := range stepCases() {
		p := workshop(c.i)
		grown := len(c.gives) - len(c.takes)
		if grown > 0 {
			full[c.i.Op]++
			checkTrap(t, c.name+" at a full stack", p, filled(impl.MaxStack, c.takes...), impl.TrapFull, c.cost)
		}
		height := impl.MaxStack - max(grown, 0)
		s := filled(height, c.takes...)
		want := c.behind(s.Stack[2 : height-len(c.takes)]...)
		checkStep(t, c.name+" up to a full stack", p, s, want)
	}
	for _, op := range []int64{impl.OpConst, impl.OpLoadLocal, impl.OpLoad, impl.OpDup} {
		if full[op] == 0 {
			t.Error("never full:", impl.Info(op).Name)
		}
	}
	if len(full) != 4 {
		t.Error("instructions that make the stack grow", full)
	}
}

func farPlaces(count int64) []int64 {
	return []int64{-1, -2, count, count + 1, 1 << 32, 1<<32 + 1, math.MaxInt64, math.MaxInt64 - 1, math.MinInt64, math.MinInt64 + 2}
}

func TestTrapJump(t *testing.T) {
	p := workshop(instr(impl.OpAdd, 3))
	for _, at := range farPlaces(5) {
		s := filled(impl.MaxStack, intOf(5))
		s.Frames[1].At = at
		checkTrap(t, "a place that is no instruction", p, s, impl.TrapJump, 0)
		s = fullDepth(atWork())
		s.Frames[impl.MaxDepth-1].At = at
		checkTrap(t, "a place that is none, as deep as can be", p, s, impl.TrapJump, 0)
	}
	s := atWork()
	s.Frames[1].At = 4
	checkTrap(t, "the last place", p, s, impl.TrapReturn, 2)
	s.Frames[0].At = math.MaxInt64
	s.Frames[1].At = 0
	want := copyOf(s)
	want.Frames[1].At, want.Steps, want.Cost = 1, 71, 1001
	checkStep(t, "a place of another frame does not matter", p, s, want)
}

// fullDepth has the last frame of a state as often as there can be.
func fullDepth(s impl.State) impl.State {
	for len(s.Frames) < impl.MaxDepth {
		s.Frames = append(s.Frames, copyOf(s.Frames[len(s.Frames)-1]))
	}
	return s
}

func TestTrapDepth(t *testing.T) {
	params := values(intOf(11), uintOf(12), boolOf(1))
	p := workshop(instr(impl.OpCall, 2))
	checkTrap(t, "a call too deep", p, fullDepth(atWork(params...)), impl.TrapDepth, 4)
	checkTrap(t, "a call too deep at a full stack", p, fullDepth(filled(impl.MaxStack, params...)), impl.TrapDepth, 4)
	checkTrap(t, "too few ahead of too deep", p, fullDepth(atWork(params[1:]...)), impl.TrapFew, 4)
	checkTrap(t, "too few above the base ahead of too deep", p, lifted(fullDepth(atWork(params...)), 1), impl.TrapFew, 4)
	checkTrap(t, "a type ahead of too deep", p, fullDepth(atWork(params[0], params[0], params[2])), impl.TrapType, 4)
	checkTrap(t, "too few ahead of a type ahead of too deep", p, fullDepth(atWork(params[2], params[2])), impl.TrapFew, 4)
	s := fullDepth(atWork(params...))
	s.Frames = s.Frames[1:]
	if got := impl.StepOnce(p, s); got.Trap != 0 || len(got.Frames) != impl.MaxDepth || got.Frames[impl.MaxDepth-1].Base != 2 {
		t.Error("the deepest call", got.Trap, len(got.Frames))
	}
	for _, callee := range []int64{3, 4} {
		checkTrap(t, "a call without parameters too deep", workshop(instr(impl.OpCall, callee)), fullDepth(atWork()), impl.TrapDepth, 4)
	}
}

func TestTrapReturn(t *testing.T) {
	for _, result := range []int64{0, 1, 2, 3} {
		p := workshop(ret())
		p.Funcs[1].Result = result
		for _, x := range values(boolOf(1), intOf(5), uintOf(5)) {
			for _, y := range values(boolOf(0), intOf(6), uintOf(6)) {
				checkTrap(t, "return with two", p, atWork(x, y), impl.TrapReturn, 2)
				s := atWork(x, y)
				s.Frames = s.Frames[1:]
				checkTrap(t, "the last return with two", p, s, impl.TrapReturn, 2)
				checkTrap(t, "return with many", p, filled(impl.MaxStack, x, y), impl.TrapReturn, 2)
			}
			if x.Type != result {
				checkTrap(t, "return with another type", p, atWork(x), impl.TrapReturn, 2)
			}
			if result != 0 {
				checkTrap(t, "return with nothing above the base", p, lifted(atWork(x), 1), impl.TrapReturn, 2)
			}
		}
		if result != 0 {
			checkTrap(t, "return with nothing", p, atWork(), impl.TrapReturn, 2)
			s := atWork()
			s.Frames = s.Frames[1:]
			checkTrap(t, "the last return with nothing", p, s, impl.TrapReturn, 2)
		}
	}
}

func TestTrapsAtOnce(t *testing.T) {
	checkTrap(t, "too few ahead of full", workshop(instr(impl.OpDup)), lifted(filled(impl.MaxStack), impl.MaxStack-2), impl.TrapFew, 1)
	checkTrap(t, "too few ahead of a type", workshop(instr(impl.OpAdd, 3)), atWork(boolOf(1)), impl.TrapFew, 1)
	checkTrap(t, "too few above the base ahead of a type", workshop(instr(impl.OpStoreAt, 1, 2, 3)), lifted(atWork(uintOf(1), intOf(2)), 1), impl.TrapFew, 3)
	checkTrap(t, "a type below ahead of nothing else", workshop(instr(impl.OpStoreAt, 1, 2, 3)), filled(impl.MaxStack, intOf(1), uintOf(2)), impl.TrapType, 3)
	checkTrap(t, "a guard at a full stack", workshop(instr(impl.OpGuard, 0, 0, 1)), fullDepth(filled(impl.MaxStack)), impl.TrapType, 2)
	s := fullDepth(filled(impl.MaxStack, intOf(1)))
	s.Frames[impl.MaxDepth-1].At = 5
	s.Cost = -1
	checkTrap(t, "not in shape ahead of a place that is none", workshop(ret()), s, impl.TrapBad, 0)
}

func TestTrapOrEndStays(t *testing.T) {
	programs := append(oddPrograms()[:7], workshop(instr(impl.OpNop)), leastProgram())
	for _, p := range programs {
		for _, s := range append(oddStates(), atWork(), fullDepth(filled(impl.MaxStack))) {
			for _, trap := range []int64{1, 2, 3, 4, 5, 6, 7, 8, -1, 256, 1 << 32, math.MaxInt64, math.MinInt64} {
				s.Trap, s.Done = trap, false
				if got := impl.StepOnce(p, s); !sameAnswers(got, s) {
					t.Error("a trap does not stay", trap, brief(got))
				}
			}
			s.Trap, s.Done = 0, true
			checkStep(t, "the end stays", p, s, s)
			s.Trap = impl.TrapFew
			checkStep(t, "an end with a trap stays", p, s, s)
		}
	}
}

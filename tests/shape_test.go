package tests

import (
	"math"
	"testing"

	"loop.example/s02548/impl"
)

// oddStates are not in shape, each in a way that may lead a reader of it astray.
func oddStates() []impl.State {
	far := impl.State{
		Cost:   math.MinInt64,
		Steps:  math.MaxInt64,
		Cells:  [][]impl.Value{{{Type: math.MaxInt64, Word: math.MaxUint32}}, nil, {}, {{}}},
		Stack:  []impl.Value{{Type: math.MinInt64}, {}},
		Frames: []impl.Frame{{Func: math.MaxInt64, At: math.MinInt64, Base: math.MaxInt64, Locals: values(boolOf(9))}, {Func: -1, Base: -1}},
	}
	return []impl.State{
		{},
		{Cells: [][]impl.Value{}, Stack: []impl.Value{}, Frames: []impl.Frame{}},
		{Cells: make([][]impl.Value, 3)},
		{Cells: make([][]impl.Value, 4), Frames: make([]impl.Frame, 1)},
		{Cells: make([][]impl.Value, 2), Frames: make([]impl.Frame, 2)},
		{Stack: make([]impl.Value, 1000), Frames: make([]impl.Frame, 1000)},
		far,
	}
}

// shapeCase is a change of a state at work, and whether it is in shape then.
type shapeCase struct {
	name   string
	good   bool
	change func(p *impl.Program, s *impl.State)
}

func countCases() []shapeCase {
	var list []shapeCase
	for _, c := range []struct {
		n    int64
		good bool
	}{{0, true}, {1, true}, {1 << 31, true}, {1 << 32, true}, {1<<62 - 1, true}, {1 << 62, true}, {1<<62 + 1, false}, {math.MaxInt64, false}, {-1, false}, {-(1 << 62), false}, {math.MinInt64, false}} {
		list = append(list,
			shapeCase{"cost", c.good, func(p *impl.Program, s *impl.State) { s.Cost = c.n }},
			shapeCase{"steps", c.good, func(p *impl.Program, s *impl.State) { s.Steps = c.n }})
	}
	return list
}

func frameCases() []shapeCase {
	list := []shapeCase{
		{"no frames", false, func(p *impl.Program, s *impl.State) { s.Frames = nil }},
		{"one frame", true, func(p *impl.Program, s *impl.State) { s.Frames = s.Frames[1:] }},
		{"as many frames as can be", true, func(p *impl.Program, s *impl.State) { *s = fullDepth(*s) }},
		{"a frame more", false, func(p *impl.Program, s *impl.State) {
			*s = fullDepth(*s)
			s.Frames = append(s.Frames, copyOf(s.Frames[1]))
		}},
		{"the first base above 0", true, func(p *impl.Program, s *impl.State) { s.Frames[0].Base = 1 }},
		{"bases that are the same", true, func(p *impl.Program, s *impl.State) { s.Frames[0].Base = 2 }},
		{"both bases 0", true, func(p *impl.Program, s *impl.State) { s.Frames[1].Base = 0 }},
		{"bases that fall", false, func(p *impl.Program, s *impl.State) { s.Frames[0].Base = 3 }},
		{"bases that fall by one", false, func(p *impl.Program, s *impl.State) { s.Frames[0].Base, s.Frames[1].Base = 2, 1 }},
		{"a base at the stack's height", true, func(p *impl.Program, s *impl.State) { s.Frames[1].Base = 3 }},
		{"a base above the stack's height", false, func(p *impl.Program, s *impl.State) { s.Frames[1].Base = 4 }},
		{"both bases above the stack's height", false, func(p *impl.Program, s *impl.State) { s.Frames[0].Base, s.Frames[1].Base = 4, 4 }},
		{"a first base below 0", false, func(p *impl.Program, s *impl.State) { s.Frames[0].Base = -1 }},
		{"a base below 0", false, func(p *impl.Program, s *impl.State) { s.Frames[1].Base = -1 }},
		{"both bases below 0", false, func(p *impl.Program, s *impl.State) { s.Frames[0].Base, s.Frames[1].Base = -2, -1 }},
		{"a least base", false, func(p *impl.Program, s *impl.State) { s.Frames[0].Base = math.MinInt64 }},
		{"a greatest base", false, func(p *impl.Program, s *impl.State) { s.Frames[1].Base = math.MaxInt64 }},
		{"a base of 2^32 and more", false, func(p *impl.Program, s *impl.State) { s.Frames[1].Base = 1<<32 + 2 }},
		{"any place of the first frame", true, func(p *impl.Program, s *impl.State) { s.Frames[0].At = -7 }},
	}
	for i := range 2 {
		for _, f := range []int64{-1, 5, 6, 256, 1<<32 + int64(i), math.MaxInt64, math.MinInt64, math.MinInt64 + int64(i)} {
			list = append(list, shapeCase{"a function that there is not", false, func(p *impl.Program, s *impl.State) { s.Frames[i].Func = f }})
		}
	}
	return append(list,
		shapeCase{"the last function", true, func(p *impl.Program, s *impl.State) {
			s.Frames[0] = impl.Frame{Func: 4, Locals: values(intOf(3))}
		}},
		shapeCase{"any function first", true, func(p *impl.Program, s *impl.State) { s.Frames[0] = impl.Frame{Func: 3} }},
		shapeCase{"another function's locals", false, func(p *impl.Program, s *impl.State) { s.Frames[0].Func = 4 }})
}

// valueCases are about one value of a state, of each type; any says that its type is free.
func valueCases(what string, any bool, at func(s *impl.State) *impl.Value) []shapeCase {
	var list []shapeCase
	put := func(name string, good bool, v func(was impl.Value) impl.Value) {
		list = append(list, shapeCase{what + " " + name, good, func(p *impl.Program, s *impl.State) { *at(s) = v(*at(s)) }})
	}
	for _, n := range wrongTypes() {
		put("of no type", false, func(was impl.Value) impl.Value { return impl.Value{Type: n, Word: was.Word & 1} })
	}
	for shift := range int64(2) {
		put("of another type", any, func(was impl.Value) impl.Value {
			return impl.Value{Type: (was.Type+shift)%3 + 1, Word: was.Word & 1}
		})
	}
	for _, w := range []uint32{2, 3, 256, 0x80000000, math.MaxUint32} {
		put("of bool that is neither 0 nor 1", false, func(was impl.Value) impl.Value { return boolOf(w) })
		if any {
			put("of int", true, func(was impl.Value) impl.Value { return intOf(w) })
			put("of uint", true, func(was impl.Value) impl.Value { return uintOf(w) })
		}
	}
	return list
}

func localCases() []shapeCase {
	list := []shapeCase{
		{"no locals", false, func(p *impl.Program, s *impl.State) { s.Frames[0].Locals = nil }},
		{"a local more", false, func(p *impl.Program, s *impl.State) { s.Frames[0].Locals = append(s.Frames[0].Locals, boolOf(0)) }},
		{"a local less above", false, func(p *impl.Program, s *impl.State) { s.Frames[1].Locals = s.Frames[1].Locals[:4] }},
		{"a local more above", false, func(p *impl.Program, s *impl.State) { s.Frames[1].Locals = append(s.Frames[1].Locals, intOf(0)) }},
		{"a false local", true, func(p *impl.Program, s *impl.State) { s.Frames[1].Locals[2] = boolOf(0) }},
		{"great locals", true, func(p *impl.Program, s *impl.State) {
			s.Frames[1].Locals[0].Word, s.Frames[1].Locals[1].Word = 1<<32-1, 1<<32-1
		}},
	}
	for _, place := range [][2]int{{0, 0}, {1, 0}, {1, 1}, {1, 2}, {1, 3}, {1, 4}} {
		list = append(list, valueCases("a local", false, func(s *impl.State) *impl.Value { return &s.Frames[place[0]].Locals[place[1]] })...)
	}
	return list
}

func stackCases() []shapeCase {
	list := []shapeCase{
		{"a full stack", true, func(p *impl.Program, s *impl.State) { *s = filled(impl.MaxStack) }},
		{"a value more", false, func(p *impl.Program, s *impl.State) { *s = filled(impl.MaxStack + 1) }},
		{"many values more", false, func(p *impl.Program, s *impl.State) { *s = filled(1000) }},
	}
	for i := range 3 {
		list = append(list, valueCases("a value", true, func(s *impl.State) *impl.Value { return &s.Stack[i] })...)
	}
	return list
}

func cellShapeCases() []shapeCase {
	list := []shapeCase{
		{"no cells", false, func(p *impl.Program, s *impl.State) { s.Cells = nil }},
		{"two lists of cells", false, func(p *impl.Program, s *impl.State) { s.Cells = s.Cells[:2] }},
		{"four lists of cells", false, func(p *impl.Program, s *impl.State) { s.Cells = append(s.Cells, nil) }},
		{"a region without cells", true, func(p *impl.Program, s *impl.State) { p.Regions[0], s.Cells[0] = nil, []impl.Value{} }},
	}
	for region := range 3 {
		list = append(list,
			shapeCase{"a cell less", false, func(p *impl.Program, s *impl.State) { s.Cells[region] = s.Cells[region][:len(s.Cells[region])-1] }},
			shapeCase{"a cell more", false, func(p *impl.Program, s *impl.State) { s.Cells[region] = append(s.Cells[region], boolOf(0)) }},
			shapeCase{"a region of none", false, func(p *impl.Program, s *impl.State) { s.Cells[region] = nil }})
		for cell := range 4 {
			list = append(list, valueCases("a cell", false, func(s *impl.State) *impl.Value { return &s.Cells[region][cell] })...)
		}
	}
	return list
}

func programCases() []shapeCase {
	return []shapeCase{
		{"no program", false, func(p *impl.Program, s *impl.State) { *p = impl.Program{} }},
		{"another program", false, func(p *impl.Program, s *impl.State) { *p = leastProgram() }},
		{"a constant of none", false, func(p *impl.Program, s *impl.State) { p.Consts[0].Word = 2 }},
		{"an instruction of none", false, func(p *impl.Program, s *impl.State) { p.Funcs[3].Code[0].Op = 30 }},
		{"a certificate of none", false, func(p *impl.Program, s *impl.State) { p.Certs = []impl.Cert{{Func: 5}} }},
		{"a certificate", true, func(p *impl.Program, s *impl.State) { p.Certs = []impl.Cert{{Func: 1, Counter: 1}} }},
		{"more functions", true, func(p *impl.Program, s *impl.State) { p.Funcs = append(p.Funcs, p.Funcs[1]) }},
	}
}

func TestShapes(t *testing.T) {
	list := append(countCases(), frameCases()...)
	list = append(list, localCases()...)
	list = append(list, stackCases()...)
	list = append(list, cellShapeCases()...)
	list = append(list, programCases()...)
	seen := map[bool]int{}
	for _, c := range list {
		seen[c.good]++
		p, s := workshop(instr(impl.OpNop)), atWork(uintOf(5))
		c.change(&p, &s)
		want := copyOf(s)
		if c.good {
			want.Steps++
			want.Cost++
			want.Frames[len(want.Frames)-1].At++
		} else {
			want.Trap = impl.TrapBad
		}
		checkStep(t, c.name, p, s, want)
	}
	if seen[true] < 50 || seen[false] < 300 {
		t.Error("cases", seen)
	}
}

func TestShapesOfOddStatesAndPrograms(t *testing.T) {
	for _, s := range oddStates() {
		for _, p := range append(oddPrograms()[:7], leastProgram(), someProgram()) {
			checkTrap(t, "an odd state", p, s, impl.TrapBad, 0)
		}
	}
	for _, p := range oddPrograms() {
		checkTrap(t, "an odd program", p, atWork(), impl.TrapBad, 0)
	}
	for _, c := range faultCases() {
		p := someProgram()
		s := impl.Begin(p, someMemory())
		c.change(&p)
		if c.want != 0 {
			checkTrap(t, c.name, p, s, impl.TrapBad, 0)
		}
	}
}

// Counts at their limit grow beyond it, and then the state is not in shape any more.
func TestCountsThatPassTheirLimit(t *testing.T) {
	p, s := workshop(instr(impl.OpNop)), atWork()
	s.Steps = 1 << 62
	s = impl.StepOnce(p, s)
	if s.Trap != 0 || s.Steps != 1<<62+1 || s.Cost != 1001 {
		t.Error(s.Trap, s.Steps, s.Cost)
	}
	checkTrap(t, "too many steps", p, s, impl.TrapBad, 0)
	p, s = workshop(instr(impl.OpDiv, 3)), atWork(uintOf(8), uintOf(2))
	s.Cost = 1 << 62
	s = impl.StepOnce(p, s)
	if s.Trap != 0 || s.Steps != 71 || s.Cost != 1<<62+8 {
		t.Error(s.Trap, s.Steps, s.Cost)
	}
	checkTrap(t, "too dear", p, s, impl.TrapBad, 0)
}

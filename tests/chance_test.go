package tests

import (
	"testing"

	"loop.example/s02548/impl"
)

// dice throws the same numbers each time.
type dice uint32

func (d *dice) next(n int) int {
	*d = *d*1664525 + 1013904223
	return int(*d>>8) % n
}

func (d *dice) number(n int) int64 { return int64(d.next(n)) }

func (d *dice) types(n int) []int64 {
	list := make([]int64, n)
	for i := range list {
		list[i] = d.number(3) + 1
	}
	return list
}

func (d *dice) value(t int64) impl.Value {
	if t == 0 {
		t = d.number(3) + 1
	}
	words := edgeWords()
	w := words[d.next(len(words))]
	if t == impl.TypeBool {
		w &= 1
	}
	return impl.Value{Type: t, Word: w}
}

func (d *dice) values(types []int64) []impl.Value {
	var list []impl.Value
	for _, t := range types {
		list = append(list, d.value(t))
	}
	return list
}

// instruction is one that has no fault in its place; there are at least two of all that it may name.
func (d *dice) instruction(p impl.Program, f impl.Func, codeLength int) impl.Instr {
	for {
		i := instr(d.number(impl.MaxOp + 1))
		switch impl.Info(i.Op).Form {
		case 1:
			i.A = d.number(len(p.Consts))
		case 2:
			i.A = d.number(len(f.Params) + len(f.Locals))
		case 3, 4:
			i.A = d.number(3)
			i.B = d.number(len(p.Regions[i.A]))
			if i.Op == impl.OpLoadAt || i.Op == impl.OpStoreAt {
				i.C = 1<<d.number(3) - 1
			}
		case 5, 6, 7:
			i.A = d.number(3) + 1
		case 8:
			i.A, i.B = d.number(3)+1, d.number(3)+1
		case 9:
			i.C = d.number(codeLength)
		case 10:
			i.A, i.C = d.number(len(f.Params)+len(f.Locals)), d.number(codeLength)
		case 11:
			i.A = d.number(len(p.Funcs))
		}
		f.Code = make([]impl.Instr, codeLength)
		if wantedInstr(p, f, i) {
			return i
		}
	}
}

// program is one without a fault.
func (d *dice) program() impl.Program {
	p := impl.Program{Regions: [][]int64{append(d.types(3), 3, 3), append(d.types(4), 3, 3, 3, 3), append(d.types(2), 1, 1)}}
	p.Consts = []impl.Const{{Type: 1, Word: 1}, {Type: 2, Word: 7}, {Type: 3, Word: 2}, {Type: 3, Word: 0}}
	p.Funcs = make([]impl.Func, 4)
	for i := range p.Funcs {
		f := &p.Funcs[i]
		if i > 0 {
			f.Params, f.Result = d.types(d.next(4)), d.number(4)
		}
		f.Locals = append(d.types(d.next(3)), 3, 1, 2)
	}
	for i := range p.Funcs {
		p.Funcs[i].Code = d.code(p, p.Funcs[i])
	}
	return p
}

// code puts ahead of most instructions what they take; where jumps lead does not care for that.
func (d *dice) code(p impl.Program, f impl.Func) []impl.Instr {
	const length = 30
	var code []impl.Instr
	for len(code) < length-2 {
		i := d.instruction(p, f, length)
		if d.next(8) > 0 {
			for _, t := range wantedTakes(p, f, i) {
				code = append(code, instr(impl.OpConst, max(t-1, 0)))
			}
		}
		code = append(code, i)
	}
	for len(code) < length {
		code = append(code, instr(impl.OpNop))
	}
	code = code[:length]
	code[length-1] = ret()
	if f.Result != 0 {
		code[length-2] = instr(impl.OpConst, f.Result-1)
	}
	return code
}

// state is one of a program, mostly in shape, and mostly such that its next instruction can be done.
func (d *dice) state(p impl.Program) impl.State {
	s := impl.State{Cost: d.number(1000), Steps: d.number(1000)}
	for _, cells := range p.Regions {
		s.Cells = append(s.Cells, d.values(cells))
	}
	depth := []int{1, 2, 3, 31, 32}[d.next(5)]
	for range depth {
		number := d.number(len(p.Funcs))
		f := p.Funcs[number]
		s.Frames = append(s.Frames, impl.Frame{Func: number, At: d.number(len(f.Code) + 1), Base: int64(len(s.Stack)), Locals: d.values(append(append([]int64{}, f.Params...), f.Locals...))})
		if len(s.Stack) < impl.MaxStack/2 {
			s.Stack = append(s.Stack, d.values(d.types(d.next(2)))...)
		}
	}
	if d.next(4) == 0 {
		s.Stack = append(s.Stack, d.values(d.types(impl.MaxStack-3-len(s.Stack)))...)
	}
	last := s.Frames[depth-1]
	f := p.Funcs[last.Func]
	if within(last.At, len(f.Code)) && d.next(4) > 0 {
		s.Stack = append(s.Stack, d.values(wantedTakes(p, f, f.Code[last.At]))...)
	}
	for len(s.Stack) < impl.MaxStack && d.next(3) == 0 {
		s.Stack = append(s.Stack, d.value(0))
	}
	return s
}

func TestStepsOfManyStates(t *testing.T) {
	d := dice(3)
	traps := map[int64]int{}
	done := map[int64]int{}
	for range 2500 {
		p := d.program()
		if code := impl.ProgramFault(p); code != 0 {
			t.Fatal("a program with the fault", code)
		}
		for range 3 {
			s := d.state(p)
			got, want := impl.StepOnce(p, s), wantedStep(p, s)
			if !sameAnswers(got, want) {
				t.Fatalf("of %s: %s, not %s", brief(s), brief(got), brief(want))
			}
			traps[got.Trap]++
			last := s.Frames[len(s.Frames)-1]
			if got.Trap == 0 {
				done[p.Funcs[last.Func].Code[last.At].Op]++
			}
		}
	}
	for trap := range int64(impl.TrapBad) {
		if traps[trap] < 20 {
			t.Error("seldom the trap", trap, traps)
		}
	}
	for op := range int64(impl.MaxOp + 1) {
		if done[op] < 20 {
			t.Error("seldom done:", impl.Info(op).Name, done[op])
		}
	}
}

func TestRunsOfManyPrograms(t *testing.T) {
	d := dice(5)
	steps, ends := int64(0), map[int64]int{}
	for range 300 {
		p := d.program()
		m := impl.Memory{In: make([]uint32, 5), Out: make([]uint32, 8), Keep: make([]uint32, 4)}
		for i := range m.In {
			m.In[i] = uint32(d.next(4))
		}
		s := checkRun(t, "by chance", p, m, 40)
		steps += s.Steps
		ends[s.Trap]++
	}
	if steps < 1500 || len(ends) < 5 {
		t.Error("steps", steps, "ends", ends)
	}
}

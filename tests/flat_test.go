package tests

import (
	"fmt"
	"slices"
	"testing"

	"loop.example/s02548/impl"
)

// wantedFast is what an instruction of a function becomes, as the document tells it.
func wantedFast(p impl.Program, f int, i impl.Instr) impl.FastInstr {
	starts := func(f int64) int64 {
		sum := int64(0)
		for _, ahead := range p.Funcs[:f] {
			sum += int64(len(ahead.Code))
		}
		return sum
	}
	cells := func() int64 {
		sum := i.B
		for _, ahead := range p.Regions[:i.A] {
			sum += int64(len(ahead))
		}
		return sum
	}
	locals := func(f int64) int64 { return int64(len(p.Funcs[f].Params) + len(p.Funcs[f].Locals)) }
	name := instructionTable()[i.Op].info.Name
	switch name {
	case "const":
		return impl.FastInstr{Op: i.Op, Word: p.Consts[i.A].Word}
	case "loadlocal", "storelocal":
		return impl.FastInstr{Op: i.Op, A: i.A}
	case "load", "store":
		return impl.FastInstr{Op: i.Op, B: cells()}
	case "loadat", "storeat":
		return impl.FastInstr{Op: i.Op, B: cells(), C: i.C}
	case "jump", "jumpzero":
		return impl.FastInstr{Op: i.Op, C: starts(int64(f)) + i.C}
	case "guard":
		return impl.FastInstr{Op: i.Op, A: i.A, C: starts(int64(f)) + i.C}
	case "call":
		return impl.FastInstr{Op: i.Op, A: int64(len(p.Funcs[i.A].Params)), B: locals(i.A), C: starts(i.A)}
	case "return":
		return impl.FastInstr{Op: i.Op, A: locals(int64(f))}
	case "add", "sub", "mul", "div", "mod", "and", "or", "xor", "not", "eq", "less":
		return impl.FastInstr{Op: i.Op, Type: i.A}
	case "conv":
		return impl.FastInstr{Op: i.Op, A: i.A, Type: i.B}
	}
	return impl.FastInstr{Op: i.Op}
}

func wantedFlat(p impl.Program) impl.Fast {
	if impl.Check(p).Code != 0 {
		return impl.Fast{}
	}
	flat := impl.Fast{Good: true}
	for f, own := range p.Funcs {
		flat.Starts = append(flat.Starts, int64(len(flat.Code)))
		for _, i := range own.Code {
			flat.Code = append(flat.Code, wantedFast(p, f, i))
		}
	}
	sum := 0
	for _, cells := range p.Regions {
		flat.Cells = append(flat.Cells, int64(sum))
		sum += len(cells)
	}
	flat.Cells = append(flat.Cells, int64(sum))
	for _, of := range p.Regions[0] {
		flat.Bools = append(flat.Bools, of == impl.TypeBool)
	}
	return flat
}

func checkFlat(t *testing.T, what string, p impl.Program) impl.Fast {
	t.Helper()
	got, want := impl.Flatten(p), wantedFlat(p)
	if !sameAnswers(got, want) {
		t.Fatalf("%s: %+v, not %+v", what, got, want)
	}
	return got
}

// flatCase is an instruction with the words ahead of it and behind it, and what it becomes in a function that begins at 13; in function 0 places are 13 less.
type flatCase struct {
	ahead  string
	word   string
	behind string
	want   impl.FastInstr
}

func flatCases() []flatCase {
	return []flatCase{
		{"", "n", "", impl.FastInstr{Op: 0}},
		{"", "const:0", "x", impl.FastInstr{Op: 1, Word: 1}},
		{"", "const:1", "x", impl.FastInstr{Op: 1, Word: 0xfffffff9}},
		{"", "const:3", "x", impl.FastInstr{Op: 1}},
		{"n", "const:8", "x", impl.FastInstr{Op: 1, Word: 1 << 29}},
		{"", "loadlocal:0", "x", impl.FastInstr{Op: 2}},
		{"", "loadlocal:4", "x", impl.FastInstr{Op: 2, A: 4}},
		{"u", "storelocal:3", "", impl.FastInstr{Op: 3, A: 3}},
		{"b", "storelocal:4", "", impl.FastInstr{Op: 3, A: 4}},
		{"", "load:0:0", "x", impl.FastInstr{Op: 4}},
		{"", "load:0:1", "x", impl.FastInstr{Op: 4, B: 1}},
		{"", "load:1:0", "x", impl.FastInstr{Op: 4, B: 2}},
		{"", "load:1:4", "x", impl.FastInstr{Op: 4, B: 6}},
		{"", "load:2:0", "x", impl.FastInstr{Op: 4, B: 7}},
		{"", "load:2:1", "x", impl.FastInstr{Op: 4, B: 8}},
		{"u", "store:1:0", "", impl.FastInstr{Op: 5, B: 2}},
		{"b", "store:1:4", "", impl.FastInstr{Op: 5, B: 6}},
		{"u", "store:2:1", "", impl.FastInstr{Op: 5, B: 8}},
		{"u", "loadat:0:0:0", "x", impl.FastInstr{Op: 6}},
		{"u", "loadat:1:0:3", "x", impl.FastInstr{Op: 6, B: 2, C: 3}},
		{"u", "loadat:1:2:1", "x", impl.FastInstr{Op: 6, B: 4, C: 1}},
		{"u", "loadat:1:4:0", "x", impl.FastInstr{Op: 6, B: 6}},
		{"u", "loadat:2:0:1", "x", impl.FastInstr{Op: 6, B: 7, C: 1}},
		{"u u", "storeat:1:0:3", "", impl.FastInstr{Op: 7, B: 2, C: 3}},
		{"u u", "storeat:1:1:1", "", impl.FastInstr{Op: 7, B: 3, C: 1}},
		{"u u", "storeat:2:1:0", "", impl.FastInstr{Op: 7, B: 8}},
		{"i i", "add:2", "x", impl.FastInstr{Op: 8, Type: 2}},
		{"u u", "add:3", "x", impl.FastInstr{Op: 8, Type: 3}},
		{"i i", "sub:2", "x", impl.FastInstr{Op: 9, Type: 2}},
		{"u u", "mul:3", "x", impl.FastInstr{Op: 10, Type: 3}},
		{"i i", "div:2", "x", impl.FastInstr{Op: 11, Type: 2}},
		{"u u", "mod:3", "x", impl.FastInstr{Op: 12, Type: 3}},
		{"b b", "and:1", "x", impl.FastInstr{Op: 13, Type: 1}},
		{"u u", "or:3", "x", impl.FastInstr{Op: 14, Type: 3}},
		{"b b", "xor:1", "x", impl.FastInstr{Op: 15, Type: 1}},
		{"b", "not:1", "x", impl.FastInstr{Op: 16, Type: 1}},
		{"u", "not:3", "x", impl.FastInstr{Op: 16, Type: 3}},
		{"u u", "shl", "x", impl.FastInstr{Op: 17}},
		{"u u", "shr", "x", impl.FastInstr{Op: 18}},
		{"i", "neg", "x", impl.FastInstr{Op: 19}},
		{"b b", "eq:1", "x", impl.FastInstr{Op: 20, Type: 1}},
		{"i i", "eq:2", "x", impl.FastInstr{Op: 20, Type: 2}},
		{"u u", "less:3", "x", impl.FastInstr{Op: 21, Type: 3}},
		{"b", "conv:1:2", "x", impl.FastInstr{Op: 22, A: 1, Type: 2}},
		{"u", "conv:3:1", "x", impl.FastInstr{Op: 22, A: 3, Type: 1}},
		{"i", "conv:2:3", "x", impl.FastInstr{Op: 22, A: 2, Type: 3}},
		{"i", "d", "x x", impl.FastInstr{Op: 23}},
		{"i", "x", "", impl.FastInstr{Op: 24}},
		{"", "j1", "", impl.FastInstr{Op: 25, C: 14}},
		{"n n", "j3", "n n", impl.FastInstr{Op: 25, C: 16}},
		{"b", "z2", "", impl.FastInstr{Op: 26, C: 15}},
		{"b", "z4", "n n", impl.FastInstr{Op: 26, C: 17}},
		{"", "guard:0:1", "", impl.FastInstr{Op: 27, C: 14}},
		{"n", "guard:3:4", "n n", impl.FastInstr{Op: 27, A: 3, C: 17}},
		{"i b", "call:1", "x", impl.FastInstr{Op: 28, A: 2, B: 7, C: 100}},
		{"", "call:2", "", impl.FastInstr{Op: 28, B: 5, C: 101}},
		{"", "call:3", "", impl.FastInstr{Op: 28, C: 102}},
		{"n n", "r", "", impl.FastInstr{Op: 29, A: 5}},
	}
}

// flatProgram has the code in function 0, or in function 4 that begins at 13; functions 1 to 3 are of 2, 1 and 3 instructions.
func flatProgram(code string, first bool) (impl.Program, []int64) {
	ahead := "n n n n n n r"
	if first {
		p := several(code, "ib>u u r", "r", "n n r", ahead)
		p.Funcs[3].Locals = nil
		at := int64(len(p.Funcs[0].Code))
		return p, []int64{0, at, at + 2, at + 3, at + 6}
	}
	p := several(ahead, "ib>u u r", "r", "n n r", code)
	p.Funcs[3].Locals = nil
	return p, []int64{0, 7, 9, 10, 13}
}

// Each form of instruction by hand, field by field.
func TestFlatInstructions(t *testing.T) {
	seen := map[int64]int{}
	for _, x := range flatCases() {
		text := x.ahead + " " + x.word + " " + x.behind + " r"
		if x.word == "r" {
			text = x.ahead + " r"
		}
		at := int64(len(worded(x.ahead)))
		for _, first := range []bool{true, false} {
			p, starts := flatProgram(text, first)
			f := checkFlat(t, text, p)
			if !f.Good || !slices.Equal(f.Starts, starts) || !slices.Equal(f.Cells, []int64{0, 2, 7, 9}) || !slices.Equal(f.Bools, []bool{true, false}) {
				t.Fatalf("%s: %+v", text, f)
			}
			want, own := x.want, starts[4]
			if first {
				own = 0
			}
			switch {
			case want.Op == impl.OpCall:
				want.C = starts[1+want.C-100]
			case want.C >= 13 && want.Op >= impl.OpJump:
				want.C += own - 13
			}
			if got := f.Code[own+at]; got != want {
				t.Errorf("%s in function 0, %t: %+v, not %+v", text, first, got, want)
			}
		}
		seen[x.want.Op]++
	}
	for op := range int64(impl.MaxOp + 1) {
		if seen[op] == 0 {
			t.Error("never", impl.Info(op).Name)
		}
	}
}

// Regions that have no cell: the next one begins at the same place.
func TestFlatCells(t *testing.T) {
	for _, in := range []int{0, 1, 5, 256} {
		for _, out := range []int{0, 1, 4, 256} {
			for _, keep := range []int{0, 1, 3, 256} {
				p := several("r")
				p.Regions = [][]int64{manyTypes(in), manyTypes(out), manyTypes(keep)}
				var code []impl.Instr
				var want []impl.FastInstr
				for region, cells := range p.Regions {
					for _, cell := range []int{0, len(cells) / 2, len(cells) - 1} {
						if cell >= 0 && len(cells) > 0 {
							code = append(code, instr(impl.OpLoad, int64(region), int64(cell)), instr(impl.OpDrop))
							want = append(want, impl.FastInstr{Op: impl.OpLoad, B: int64([]int{0, in, in + out}[region] + cell)}, impl.FastInstr{Op: impl.OpDrop})
						}
					}
				}
				p.Funcs[0].Code = append(code, ret())
				what := fmt.Sprint(in, " ", out, " ", keep)
				f := checkFlat(t, what, p)
				if !f.Good || !slices.Equal(f.Cells, []int64{0, int64(in), int64(in + out), int64(in + out + keep)}) || len(f.Bools) != in || !slices.Equal(f.Code[:len(code)], want) {
					t.Fatalf("%s: %v and %v", what, f.Cells, f.Bools)
				}
				for n, is := range f.Bools {
					if is != (p.Regions[0][n] == impl.TypeBool) {
						t.Error(what, "bool", n)
					}
				}
			}
		}
	}
}

func TestFlatPrograms(t *testing.T) {
	t.Parallel()
	for n, p := range append(goodPrograms(), leastProgram(), passing(), many()) {
		checkFlat(t, fmt.Sprint("program ", n), p)
	}
	f := checkFlat(t, "the least", leastProgram())
	if !f.Good || len(f.Code) != 1 || f.Code[0] != (impl.FastInstr{Op: impl.OpReturn}) || len(f.Starts) != 1 || f.Starts[0] != 0 || !slices.Equal(f.Cells, []int64{0, 0, 0, 0}) || len(f.Bools) != 0 {
		t.Errorf("the least: %+v", f)
	}
	f = checkFlat(t, "many", many())
	if !f.Good || len(f.Code) != impl.MaxFuncs*impl.MaxCode || f.Starts[31] != 31*impl.MaxCode || !slices.Equal(f.Cells, []int64{0, 256, 512, 768}) || len(f.Bools) != 256 {
		t.Error("many:", len(f.Code), f.Starts, f.Cells, len(f.Bools))
	}
	if got := f.Code[31*impl.MaxCode+2]; got != (impl.FastInstr{Op: impl.OpGuard, A: 2, C: 31*impl.MaxCode + 4}) {
		t.Errorf("the last guard but one: %+v", got)
	}
	d := dice(101)
	good := 0
	for round := range 600 {
		p := d.certifiedProgram(round%5 == 0)
		for range d.next(2) {
			d.spoilBound(&p)
		}
		if checkFlat(t, fmt.Sprint("round ", round), p).Good {
			good++
		}
	}
	if good < 200 || good > 550 {
		t.Error("good:", good)
	}
}

// refused are programs that do not pass, by the code of what bars a bound.
func refused() map[int64][]impl.Program {
	list := map[int64][]impl.Program{}
	for _, p := range append(loadPrograms(), oddPrograms()...) {
		if r := impl.Check(p); r.Code != 0 {
			list[r.Sub] = append(list[r.Sub], p)
		}
	}
	return list
}

// What does not pass is not flat: all is zero, whatever bars it.
func TestFlatWithoutACheck(t *testing.T) {
	t.Parallel()
	list := refused()
	for sub := int64(1); sub <= 8; sub++ {
		if len(list[sub]) == 0 {
			t.Error("never", sub)
		}
		for n, p := range list[sub] {
			if f := impl.Flatten(p); !sameAnswers(f, impl.Fast{}) {
				t.Errorf("program %d of %d: %+v", n, sub, f)
			}
		}
	}
	for _, c := range faultCases() {
		p := someProgram()
		c.change(&p)
		if f := impl.Flatten(p); f.Good != (impl.Check(p).Code == 0) || !f.Good && !sameAnswers(f, impl.Fast{}) {
			t.Errorf("%s: %+v", c.name, f)
		}
	}
}

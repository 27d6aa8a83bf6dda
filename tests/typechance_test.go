package tests

import (
	"fmt"
	"slices"
	"testing"

	"loop.example/s02548/impl"
)

// coder writes code of a function, in which each instruction finds what it takes.
type coder struct {
	*dice
	p     impl.Program
	f     impl.Func
	code  []impl.Instr
	shape []int64
}

func (k *coder) put(i impl.Instr) int {
	behind, code := wantedChange(k.p, k.f, i, k.shape)
	if code != 0 {
		panic(fmt.Sprint("no such code: ", i, " at ", k.shape))
	}
	k.code, k.shape = append(k.code, i), behind
	return len(k.code) - 1
}

func (k *coder) here() int64 { return int64(len(k.code)) }

// become brings the shape to this one, from the first type on that differs.
func (k *coder) become(shape []int64) {
	for len(k.shape) > len(shape) || !slices.Equal(k.shape, shape[:len(k.shape)]) {
		k.put(instr(impl.OpDrop))
	}
	for _, n := range shape[len(k.shape):] {
		k.put(push(n))
	}
}

// straight is any instruction that leads nowhere else, behind what it takes.
func (k *coder) straight() {
	i := k.instruction(k.p, k.f, 1)
	if named(i) || i.Op == impl.OpReturn {
		return
	}
	if _, code := wantedChange(k.p, k.f, i, k.shape); code != 0 {
		takes := wantedTakes(k.p, k.f, i)
		if len(k.shape)+len(takes)+1 > 60 {
			return
		}
		for _, n := range takes {
			k.put(push(max(n, 1)))
		}
	}
	k.put(i)
}

// truth pushes one of which the inputs tell whether it holds.
func (k *coder) truth() {
	k.put(instr(impl.OpLoad, impl.RegionIn, 3+k.number(2)))
	k.put(instr(impl.OpConv, impl.TypeUint, impl.TypeBool))
}

func (k *coder) some(level int) {
	for range 1 + k.next(4) {
		shape := slices.Clone(k.shape)
		switch kind := k.next(6); {
		case level == 0 || kind < 3:
			k.straight()
		case kind == 3: // two sides
			k.truth()
			test := k.put(instr(impl.OpJumpZero))
			k.some(level - 1)
			both := slices.Clone(k.shape)
			over := k.put(instr(impl.OpJump))
			k.code[test].C, k.shape = k.here(), shape
			k.some(level - 1)
			k.become(both)
			k.code[over].C = k.here()
		case kind == 4: // a loop that is left at its head
			head := k.here()
			guard := k.put(instr(impl.OpGuard, int64(len(k.f.Params)+len(k.f.Locals)-3)))
			k.some(level - 1)
			k.become(shape)
			k.put(instr(impl.OpJump, 0, 0, head))
			k.code[guard].C = k.here()
		default: // a loop that is left at its end
			head := k.here()
			k.some(level - 1)
			k.become(shape)
			k.truth()
			k.put(instr(impl.OpJumpZero, 0, 0, head))
		}
	}
}

// typedProgram is one whose functions all have types.
func (d *dice) typedProgram() impl.Program {
	p := d.program()
	for number := range p.Funcs {
		k := &coder{dice: d, p: p, f: p.Funcs[number]}
		k.some(1 + d.next(3))
		k.become(resultTypes(k.f))
		k.put(ret())
		p.Funcs[number].Code = k.code
	}
	return p
}

func TestTypesOfManyPrograms(t *testing.T) {
	d := dice(41)
	blocks, depth, loops := 0, int64(0), 0
	done := map[int64]int{}
	for range 800 {
		p := d.typedProgram()
		for f := range int64(len(p.Funcs)) {
			code := p.Funcs[f].Code
			if len(code) > 300 {
				continue
			}
			r := checkTypes(t, textOf(code), p, f)
			if r.Code != 0 {
				t.Fatalf("of %v: %s", code, typesText(r))
			}
			flow := impl.FlowOf(code)
			blocks, depth, loops = max(blocks, len(flow.Blocks)), max(depth, r.Depth), max(loops, len(flow.Loops))
			for _, i := range code {
				done[i.Op]++
			}
			checkOneOther(t, &d, p, f, r.Shapes)
		}
	}
	if blocks < 30 || depth < 8 || loops < 6 {
		t.Error("blocks", blocks, "depth", depth, "loops", loops)
	}
	for op := range int64(impl.MaxOp + 1) {
		if done[op] < 100 {
			t.Error("seldom:", impl.Info(op).Name, done[op])
		}
	}
}

// checkOneOther: with one type more, one less or another one, somewhere by chance, shapes do not hold.
func checkOneOther(t *testing.T, d *dice, p impl.Program, f int64, shapes [][]int64) {
	t.Helper()
	for range 4 {
		at := d.next(len(shapes))
		other := slices.Clone(shapes)
		shape := slices.Clone(shapes[at])
		place := d.next(len(shape) + 1)
		switch kind := d.next(3); {
		case kind == 0 || place == len(shape):
			shape = slices.Insert(shape, place, d.number(3)+1)
		case kind == 1:
			shape = slices.Delete(shape, place, place+1)
		default:
			shape[place] = shape[place]%3 + 1
		}
		other[at] = shape
		if impl.ShapesHold(p, f, other) {
			t.Fatalf("of %v hold %v", p.Funcs[f].Code, other)
		}
	}
}

// spoil changes one instruction of a function, or two.
func (d *dice) spoil(p impl.Program, f int64) {
	code := p.Funcs[f].Code
	at, other := d.next(len(code)), d.next(len(code))
	switch d.next(4) {
	case 0:
		i := d.instruction(p, p.Funcs[f], len(code))
		if i.Op != impl.OpReturn {
			code[at] = i
		}
	case 1:
		if !named(code[at]) {
			code[at] = instr(impl.OpNop)
		}
	case 2:
		if named(code[at]) {
			code[at].C = int64(other)
		} else {
			code[at] = push(d.number(3) + 1)
		}
	default:
		code[at], code[other] = code[other], code[at]
	}
}

func TestTypesOfManySpoiledPrograms(t *testing.T) {
	d := dice(43)
	codes := map[int64]int{}
	later := map[int64]int{}
	for range 4000 {
		p := d.typedProgram()
		f := d.number(len(p.Funcs))
		if len(p.Funcs[f].Code) > 120 {
			continue
		}
		for range 1 + d.next(3) {
			d.spoil(p, f)
		}
		r := checkTypes(t, textOf(p.Funcs[f].Code), p, f)
		codes[r.Code]++
		if blocks := impl.BlocksOf(p.Funcs[f].Code); len(blocks) > 0 && r.At > blocks[0].Last {
			later[r.Code]++
		}
	}
	for _, code := range []int64{0, 1, 2, 4, 5, 6} {
		if codes[code] < 50 || code%6 != 0 && later[code] < 20 {
			t.Error("seldom:", code, codes, later)
		}
	}
}

// heavy pushes values by chance and seldom takes them, so that stacks fill.
func (d *dice) heavy() []impl.Instr {
	var code []impl.Instr
	for len(code) < 100 {
		switch d.next(12) {
		case 0:
			code = append(code, instr(impl.OpDrop))
		case 1:
			code = append(code, instr(impl.OpDup))
		case 2:
			code = append(code, instr(impl.OpCall, 4))
		case 3:
			code = append(code, instr(impl.OpJump, 0, 0, int64(len(code))+1))
		case 4:
			code = append(code, instr(impl.OpGuard, 3, 0, int64(len(code))+1))
		default:
			code = append(code, push(d.number(3)+1))
		}
	}
	return append(code, ret())
}

func TestTypesOfManyFullStacks(t *testing.T) {
	d := dice(47)
	codes := map[int64]int{}
	for range 300 {
		codes[checkTypes(t, "heavy", typed(0, d.heavy()), 1).Code]++
	}
	if codes[3] < 100 {
		t.Error("seldom:", codes)
	}
}

// Ahead of each step of a run, the stack above the base has the shape that was found; and no trap is one of types.
func TestTypesAreThoseOfARun(t *testing.T) {
	d := dice(53)
	steps, ends := 0, map[int64]int{}
	for range 400 {
		p := d.typedProgram()
		m := impl.Memory{In: make([]uint32, 5), Out: make([]uint32, 8), Keep: make([]uint32, 4)}
		for i := range m.In {
			m.In[i] = uint32(d.next(3))
		}
		var types []impl.TypeResult
		for f := range p.Funcs {
			types = append(types, impl.TypesOf(p, int64(f)))
		}
		s := impl.Begin(p, m)
		for range 150 {
			if s.Done || s.Trap != 0 {
				break
			}
			f := s.Frames[len(s.Frames)-1]
			above := typesOfValues(s.Stack[f.Base:])
			if shape := types[f.Func].Shapes[f.At]; !slices.Equal(above, shape) || int64(len(above)) > types[f.Func].Depth {
				t.Fatalf("function %d at %d: %v, not %v", f.Func, f.At, above, shape)
			}
			s = impl.StepOnce(p, s)
			steps++
		}
		ends[s.Trap]++
		if s.Trap != 0 && s.Trap != impl.TrapFull && s.Trap != impl.TrapDepth {
			t.Fatal("trap", s.Trap)
		}
	}
	if steps < 10000 || ends[0] < 100 {
		t.Error("steps", steps, "ends", ends)
	}
}

// Code of the greatest length: many blocks, and shapes as high as they can be.
func TestTypesOfLongCode(t *testing.T) {
	const below = impl.MaxStack - 1
	code := pushes(manyTypes(below))
	for len(code)+2 <= impl.MaxCode-below-1 {
		code = append(code, push(impl.TypeBool), instr(impl.OpJumpZero, 0, 0, below))
	}
	for len(code) < impl.MaxCode-below-1 {
		code = append(code, instr(impl.OpNop))
	}
	code = slices.Concat(code, drops(below), []impl.Instr{ret()})
	r := checkTypes(t, "long code", typed(0, code), 1)
	if r.Code != 0 || r.Depth != impl.MaxStack || len(r.Shapes) != impl.MaxCode {
		t.Error("long code: code", r.Code, "at", r.At, "depth", r.Depth, "shapes", len(r.Shapes))
	}
	if r := checkTypes(t, "nops", typed(0, manyNops(impl.MaxCode)), 1); r.Code != 0 || len(r.Shapes) != impl.MaxCode || r.Depth != 0 {
		t.Error("nops: code", r.Code, "depth", r.Depth)
	}
	if r := checkTypes(t, "a nop more", typed(0, manyNops(impl.MaxCode+1)), 1); r.Code != 6 {
		t.Error("a nop more: code", r.Code)
	}
}

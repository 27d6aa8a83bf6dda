package tests

import (
	"math"
	"testing"

	"loop.example/s02548/impl"
)

// faultCase is a change of someProgram, and the fault that it then has.
type faultCase struct {
	name   string
	want   int64
	change func(p *impl.Program)
}

func faultCases() []faultCase {
	list := append(regionCases(), constCases()...)
	list = append(list, funcCases()...)
	list = append(list, firstFuncCases()...)
	list = append(list, codeCases()...)
	return append(list, certCases()...)
}

func regionCases() []faultCase {
	list := []faultCase{
		{"no regions", 1, func(p *impl.Program) { p.Regions = nil }},
		{"one region", 1, func(p *impl.Program) { p.Regions = p.Regions[:1] }},
		{"two regions", 1, func(p *impl.Program) { p.Regions = p.Regions[:2] }},
		{"four regions", 1, func(p *impl.Program) { p.Regions = append(p.Regions, nil) }},
	}
	for i := range 3 {
		list = append(list,
			faultCase{"cells at the limit", 0, func(p *impl.Program) {
				p.Regions[i] = append(p.Regions[i], manyTypes(impl.MaxCells-len(p.Regions[i]))...)
			}},
			faultCase{"cells above the limit", 1, func(p *impl.Program) {
				p.Regions[i] = append(p.Regions[i], manyTypes(impl.MaxCells+1-len(p.Regions[i]))...)
			}})
		for _, n := range wrongTypes() {
			list = append(list,
				faultCase{"the first cell of no type", 1, func(p *impl.Program) { p.Regions[i][0] = n }},
				faultCase{"the last cell of no type", 1, func(p *impl.Program) { p.Regions[i][len(p.Regions[i])-1] = n }})
		}
	}
	return list
}

func constCases() []faultCase {
	list := []faultCase{
		{"constants at the limit", 0, func(p *impl.Program) { p.Consts = manyConsts(impl.MaxConsts) }},
		{"constants above the limit", 2, func(p *impl.Program) { p.Consts = manyConsts(impl.MaxConsts + 1) }},
		{"false", 0, func(p *impl.Program) { p.Consts[0].Word = 0 }},
		{"true", 0, func(p *impl.Program) { p.Consts[0].Word = 1 }},
		{"int of a great word", 0, func(p *impl.Program) { p.Consts[1].Word = math.MaxUint32 }},
		{"uint of a great word", 0, func(p *impl.Program) { p.Consts[2].Word = math.MaxUint32 }},
	}
	for _, w := range []uint32{2, 3, 256, 0x80000000, math.MaxUint32} {
		list = append(list,
			faultCase{"bool of another word", 2, func(p *impl.Program) { p.Consts[0].Word = w }},
			faultCase{"the last one bool of another word", 2, func(p *impl.Program) { p.Consts[2] = impl.Const{Type: impl.TypeBool, Word: w} }})
	}
	for _, n := range wrongTypes() {
		list = append(list,
			faultCase{"the first constant of no type", 2, func(p *impl.Program) { p.Consts[0].Type = n }},
			faultCase{"the last constant of no type", 2, func(p *impl.Program) { p.Consts[2].Type = n }})
	}
	return list
}

func manyConsts(count int) []impl.Const {
	list := make([]impl.Const, count)
	for i := range list {
		list[i] = impl.Const{Type: impl.TypeInt, Word: uint32(i)}
	}
	return list
}

func manyFuncs(count int) []impl.Func {
	var list []impl.Func
	for range count {
		list = append(list, impl.Func{Code: []impl.Instr{ret()}})
	}
	return list
}

func funcCases() []faultCase {
	list := []faultCase{
		{"no functions", 3, func(p *impl.Program) { p.Funcs, p.Certs = nil, nil }},
		{"functions at the limit", 0, func(p *impl.Program) { p.Funcs = append(p.Funcs, manyFuncs(impl.MaxFuncs-4)...) }},
		{"functions above the limit", 3, func(p *impl.Program) { p.Funcs = append(p.Funcs, manyFuncs(impl.MaxFuncs-3)...) }},
		{"locals at the limit in function 0", 0, func(p *impl.Program) { p.Funcs[0].Locals = append(p.Funcs[0].Locals, manyTypes(30)...) }},
		{"locals above the limit in function 0", 3, func(p *impl.Program) { p.Funcs[0].Locals = append(p.Funcs[0].Locals, manyTypes(31)...) }},
		{"parameters at the limit, all locals", 0, func(p *impl.Program) {
			p.Funcs[1].Params, p.Funcs[1].Locals = []int64{3, 3, 1, 1, 1, 1, 1, 1}, manyTypes(24)
		}},
		{"parameters at the limit, locals above", 3, func(p *impl.Program) {
			p.Funcs[1].Params, p.Funcs[1].Locals = []int64{3, 3, 1, 1, 1, 1, 1, 1}, manyTypes(25)
		}},
	}
	for f := 1; f < 4; f++ {
		list = append(list,
			faultCase{"parameters at the limit", 0, func(p *impl.Program) { p.Funcs[f].Params = []int64{3, 3, 3, 3, 3, 3, 3, 3} }},
			faultCase{"parameters above the limit", 3, func(p *impl.Program) { p.Funcs[f].Params = []int64{3, 3, 3, 3, 3, 3, 3, 3, 3} }},
			faultCase{"locals at the limit", 0, func(p *impl.Program) {
				p.Funcs[f].Locals = append(p.Funcs[f].Locals, manyTypes(32-len(p.Funcs[f].Params)-len(p.Funcs[f].Locals))...)
			}},
			faultCase{"locals above the limit", 3, func(p *impl.Program) {
				p.Funcs[f].Locals = append(p.Funcs[f].Locals, manyTypes(33-len(p.Funcs[f].Params)-len(p.Funcs[f].Locals))...)
			}})
		for _, n := range wrongTypes() {
			list = append(list,
				faultCase{"a first parameter of no type", 3, func(p *impl.Program) { p.Funcs[f].Params[0] = n }},
				faultCase{"a last parameter of no type", 3, func(p *impl.Program) { p.Funcs[f].Params[len(p.Funcs[f].Params)-1] = n }})
			if n != 0 {
				list = append(list, faultCase{"a result of no type", 3, func(p *impl.Program) { p.Funcs[f].Result = n }})
			}
		}
		for n := int64(0); n <= 3; n++ {
			list = append(list, faultCase{"a result or none", 0, func(p *impl.Program) { p.Funcs[f].Result = n }})
		}
	}
	return list
}

// firstFuncCases has what holds of function 0 alone, and what holds of it as of all.
func firstFuncCases() []faultCase {
	var list []faultCase
	for n := int64(1); n <= 3; n++ {
		list = append(list,
			faultCase{"function 0 with a parameter", 3, func(p *impl.Program) { p.Funcs[0].Params = []int64{n} }},
			faultCase{"function 0 with a result", 3, func(p *impl.Program) { p.Funcs[0].Result = n }})
	}
	for f := range 4 {
		list = append(list,
			faultCase{"no code", 3, func(p *impl.Program) { p.Funcs[f].Code = nil }},
			faultCase{"code at the limit", 0, func(p *impl.Program) {
				p.Funcs[f].Code = append(p.Funcs[f].Code, manyNops(impl.MaxCode-len(p.Funcs[f].Code))...)
			}},
			faultCase{"code above the limit", 3, func(p *impl.Program) {
				p.Funcs[f].Code = append(p.Funcs[f].Code, manyNops(impl.MaxCode+1-len(p.Funcs[f].Code))...)
			}})
		for _, n := range wrongTypes() {
			list = append(list,
				faultCase{"a first local of no type", 3, func(p *impl.Program) { p.Funcs[f].Locals[0] = n }},
				faultCase{"a last local of no type", 3, func(p *impl.Program) { p.Funcs[f].Locals[len(p.Funcs[f].Locals)-1] = n }})
		}
	}
	return list
}

func codeCases() []faultCase {
	var list []faultCase
	for _, op := range wrongOps() {
		for f := range 4 {
			list = append(list,
				faultCase{"a first instruction that is none", 4, func(p *impl.Program) { p.Funcs[f].Code[0] = impl.Instr{Op: op} }},
				faultCase{"a last instruction that is none", 4, func(p *impl.Program) { p.Funcs[f].Code[len(p.Funcs[f].Code)-1] = impl.Instr{Op: op} }})
		}
	}
	for _, c := range instrCases() {
		list = append(list, faultCase{"an instruction", c.want, func(p *impl.Program) { p.Funcs[2].Code[3] = c.instr }})
	}
	return list
}

type instrCase struct {
	want  int64
	instr impl.Instr
}

func instrCases() []instrCase {
	return []instrCase{
		{4, impl.Instr{Op: impl.OpStore, A: 0, B: 3}},
		{0, impl.Instr{Op: impl.OpStore, A: 1, B: 3}},
		{0, impl.Instr{Op: impl.OpStore, A: 2, B: 3}},
		{0, impl.Instr{Op: impl.OpLoad, A: 0, B: 3}},
		{4, impl.Instr{Op: impl.OpLoad, A: 3}},
		{4, impl.Instr{Op: impl.OpStoreAt, A: 0, B: 3, C: 1}},
		{0, impl.Instr{Op: impl.OpStoreAt, A: 1, B: 0, C: 3}},
		{0, impl.Instr{Op: impl.OpStoreAt, A: 2, B: 0, C: 7}},
		{0, impl.Instr{Op: impl.OpLoadAt, A: 0, B: 3, C: 1}},
		{4, impl.Instr{Op: impl.OpLoadAt, A: 0, B: 3, C: 2}},
		{4, impl.Instr{Op: impl.OpLoadAt, A: 0, B: 3, C: 3}},
		{0, impl.Instr{Op: impl.OpLoadAt, A: 0, B: 4, C: 1}},
		{0, impl.Instr{Op: impl.OpLoadAt, A: 0, B: 5, C: 0}},
		{4, impl.Instr{Op: impl.OpLoadAt, A: 0, B: 5, C: 1}},
		{4, impl.Instr{Op: impl.OpLoadAt, A: 0, B: 6, C: 0}},
		{4, impl.Instr{Op: impl.OpLoadAt, A: 0, B: 2, C: 1}},
		{4, impl.Instr{Op: impl.OpLoadAt, A: 1, B: 1, C: 3}},
		{4, impl.Instr{Op: impl.OpLoadAt, A: 2, B: 0, C: 15}},
		{4, impl.Instr{Op: impl.OpLoadAt, A: 2, B: 1, C: 7}},
		{4, impl.Instr{Op: impl.OpLoadAt, A: 2, B: 0, C: math.MaxInt64}},
		{4, impl.Instr{Op: impl.OpLoadAt, A: 2, B: 1, C: math.MaxInt64}},
		{4, impl.Instr{Op: impl.OpLoadAt, A: 2, B: 1, C: 1<<32 - 1}},
		{4, impl.Instr{Op: impl.OpLoadAt, A: 2, B: 0, C: -1}},
		{4, impl.Instr{Op: impl.OpLoadAt, A: 2, B: math.MaxInt64, C: 1}},
		{4, impl.Instr{Op: impl.OpLoadAt, A: 2, B: math.MinInt64, C: 1<<63 - 1}},
		{0, impl.Instr{Op: impl.OpGuard, A: 0, C: 1}}, // no uint, but that is a matter of types
		{0, impl.Instr{Op: impl.OpCall, A: 0}},
		{0, impl.Instr{Op: impl.OpCall, A: 2}},
		{4, impl.Instr{Op: impl.OpConv, A: 2, B: 2}},
		{4, impl.Instr{Op: impl.OpAdd, A: 1}},
		{4, impl.Instr{Op: impl.OpLess, A: 1}},
		{4, impl.Instr{Op: impl.OpNot, A: 2}},
		{4, impl.Instr{Op: impl.OpEq, A: 0}},
		{4, impl.Instr{Op: impl.OpShl, A: 3}},
		{4, impl.Instr{Op: impl.OpReturn, C: 1}},
		{4, impl.Instr{Op: impl.OpJump, C: 7}},
		{0, impl.Instr{Op: impl.OpJump, C: 6}},
		{4, impl.Instr{Op: impl.OpJump, C: -1}},
		{4, impl.Instr{Op: impl.OpJump, A: 1}},
	}
}

func certCases() []faultCase {
	list := []faultCase{
		{"no certificates", 0, func(p *impl.Program) { p.Certs = nil }},
		{"certificates at the limit", 0, func(p *impl.Program) { manyCerts(p, impl.MaxCerts) }},
		{"certificates above the limit", 5, func(p *impl.Program) { manyCerts(p, impl.MaxCerts+1) }},
		{"twice the same", 5, func(p *impl.Program) { p.Certs[1] = p.Certs[0] }},
		{"twice the same at the end", 5, func(p *impl.Program) { p.Certs = append(p.Certs, p.Certs[3]) }},
		{"twice the head, with another counter and number", 5, func(p *impl.Program) { p.Certs[2] = impl.Cert{Func: 1, Head: 0, Counter: 0, Init: 99} }},
		{"heads that fall", 5, func(p *impl.Program) { p.Certs[1], p.Certs[2] = p.Certs[2], p.Certs[1] }},
		{"functions that fall", 5, func(p *impl.Program) { p.Certs[2], p.Certs[3] = p.Certs[3], p.Certs[2] }},
		{"functions that fall at the start", 5, func(p *impl.Program) { p.Certs[0], p.Certs[1] = p.Certs[1], p.Certs[0] }},
		{"functions that fall while heads rise", 5, func(p *impl.Program) {
			p.Certs = []impl.Cert{{Func: 1, Head: 0, Counter: 1}, {Func: 0, Head: 1, Counter: 1}}
		}},
		{"functions that rise while heads fall", 0, func(p *impl.Program) {
			p.Certs = []impl.Cert{{Func: 0, Head: 4, Counter: 1}, {Func: 1, Head: 0, Counter: 1}}
		}},
		{"heads that rise by one", 0, func(p *impl.Program) {
			p.Certs = []impl.Cert{{Func: 1, Head: 0, Counter: 1}, {Func: 1, Head: 1, Counter: 1}, {Func: 1, Head: 2, Counter: 1}}
		}},
		{"a counter that is a parameter", 0, func(p *impl.Program) { p.Certs[1].Counter = 0 }},
		{"a counter that is an int", 5, func(p *impl.Program) { p.Certs[1].Counter = 2 }},
		{"a counter that is a bool", 5, func(p *impl.Program) { p.Certs[0].Counter = 0 }},
		{"a parameter that is a bool", 5, func(p *impl.Program) { p.Certs[3].Counter = 0 }},
		{"a counter of another function", 5, func(p *impl.Program) { p.Certs[0].Counter = 2 }},
		{"the last local", 5, func(p *impl.Program) { p.Certs[3].Counter = 4 }},
		{"an instruction of another function", 5, func(p *impl.Program) { p.Certs[1].Head = 3 }},
		{"any number to begin with", 0, func(p *impl.Program) { p.Certs[1].Init = math.MaxUint32 }},
	}
	for i := range 4 {
		for _, n := range []int64{-1, 7, 256, 1 << 32, 1<<32 + 1, math.MaxInt64, math.MinInt64, math.MinInt64 + 1} {
			list = append(list,
				faultCase{"no such function", 5, func(p *impl.Program) { p.Certs = []impl.Cert{p.Certs[i]}; p.Certs[0].Func = n }},
				faultCase{"no such head", 5, func(p *impl.Program) { p.Certs = []impl.Cert{p.Certs[i]}; p.Certs[0].Head = n }},
				faultCase{"no such local", 5, func(p *impl.Program) { p.Certs = []impl.Cert{p.Certs[i]}; p.Certs[0].Counter = n }})
		}
	}
	list = append(list,
		faultCase{"the function behind the last", 5, func(p *impl.Program) { p.Certs = []impl.Cert{{Func: 4}} }},
		faultCase{"the last function", 0, func(p *impl.Program) { p.Certs = []impl.Cert{{Func: 3, Head: 5, Counter: 3}} }},
		faultCase{"the instruction behind the last", 5, func(p *impl.Program) { p.Certs = []impl.Cert{{Func: 3, Head: 6, Counter: 3}} }},
		faultCase{"the local behind the last", 5, func(p *impl.Program) { p.Certs = []impl.Cert{{Func: 3, Head: 5, Counter: 7}} }})
	return list
}

// manyCerts gives function 0 as much code as certificates need.
func manyCerts(p *impl.Program, count int) {
	p.Funcs[0].Code = append(p.Funcs[0].Code, manyNops(count)...)
	p.Certs = nil
	for i := range count {
		p.Certs = append(p.Certs, impl.Cert{Head: int64(i), Counter: 1})
	}
}

func TestProgramFaultByEachWay(t *testing.T) {
	for _, c := range faultCases() {
		p := someProgram()
		c.change(&p)
		if got := impl.ProgramFault(p); got != c.want {
			t.Errorf("%s: fault %d, not %d", c.name, got, c.want)
		}
		b := impl.Encode(p)
		if c.want != 0 && len(b) != 0 {
			t.Errorf("%s: encoded", c.name)
		}
		if c.want != 0 {
			continue
		}
		if r := impl.Decode(b); r.Code != 0 || !impl.SameProgram(r.Program, p) {
			t.Errorf("%s: not read back: %d", c.name, r.Code)
		}
	}
}

// Each set of faults, each fault by ways that follow one upon another: the first one counts.
func TestProgramFaultTellsTheFirst(t *testing.T) {
	byFault := map[int64][]faultCase{}
	for _, c := range faultCases() {
		byFault[c.want] = append(byFault[c.want], c)
	}
	for round := range 40 {
		for set := 1; set < 32; set++ {
			p, want := someProgram(), int64(0)
			for fault := int64(5); fault >= 1; fault-- {
				ways := byFault[fault]
				if set>>(fault-1)&1 == 1 {
					ways[round*7%len(ways)].change(&p)
					want = fault
				}
			}
			if got := impl.ProgramFault(p); got != want {
				t.Errorf("set %05b in round %d: fault %d, not %d", set, round, got, want)
			}
		}
	}
}

func TestProgramFaultHoldsFunctionsAheadOfAllCode(t *testing.T) {
	p := someProgram()
	p.Funcs[0].Code[0] = impl.Instr{Op: 30}
	p.Certs[0].Func = 9
	if got := impl.ProgramFault(p); got != 4 {
		t.Error("code ahead of certificates", got)
	}
	p.Funcs[3].Result = 4
	if got := impl.ProgramFault(p); got != 3 {
		t.Error("functions ahead of code", got)
	}
	p.Consts[2].Type = 0
	if got := impl.ProgramFault(p); got != 2 {
		t.Error("constants ahead of functions", got)
	}
	p.Regions[2][0] = 0
	if got := impl.ProgramFault(p); got != 1 {
		t.Error("regions ahead of constants", got)
	}
}

func within(n int64, count int) bool { return n >= 0 && n < int64(count) }

func zero(numbers ...int64) bool {
	for _, n := range numbers {
		if n != 0 {
			return false
		}
	}
	return true
}

// wantedInstr is what the document's table asks of an instruction of function f.
func wantedInstr(p impl.Program, f impl.Func, i impl.Instr) bool {
	locals := len(f.Params) + len(f.Locals)
	switch i.Op {
	case impl.OpNop, impl.OpShl, impl.OpShr, impl.OpNeg, impl.OpDup, impl.OpDrop, impl.OpReturn:
		return zero(i.A, i.B, i.C)
	case impl.OpConst:
		return within(i.A, len(p.Consts)) && zero(i.B, i.C)
	case impl.OpLoadLocal, impl.OpStoreLocal:
		return within(i.A, locals) && zero(i.B, i.C)
	case impl.OpLoad, impl.OpStore, impl.OpLoadAt, impl.OpStoreAt:
		return wantedCells(p, i)
	case impl.OpAdd, impl.OpSub, impl.OpMul, impl.OpDiv, impl.OpMod, impl.OpLess:
		return (i.A == impl.TypeInt || i.A == impl.TypeUint) && zero(i.B, i.C)
	case impl.OpAnd, impl.OpOr, impl.OpXor, impl.OpNot:
		return (i.A == impl.TypeBool || i.A == impl.TypeUint) && zero(i.B, i.C)
	case impl.OpEq:
		return within(i.A-1, 3) && zero(i.B, i.C)
	case impl.OpConv:
		return within(i.A-1, 3) && within(i.B-1, 3) && i.A != i.B && zero(i.C)
	case impl.OpJump, impl.OpJumpZero:
		return zero(i.A, i.B) && within(i.C, len(f.Code))
	case impl.OpGuard:
		return within(i.A, locals) && zero(i.B) && within(i.C, len(f.Code))
	case impl.OpCall:
		return within(i.A, len(p.Funcs)) && zero(i.B, i.C)
	}
	return false
}

func wantedCells(p impl.Program, i impl.Instr) bool {
	least := int64(0)
	if i.Op == impl.OpStore || i.Op == impl.OpStoreAt {
		least = 1
	}
	if i.A < least || i.A > 2 || !within(i.B, len(p.Regions[i.A])) {
		return false
	}
	if i.Op == impl.OpLoad || i.Op == impl.OpStore {
		return i.C == 0
	}
	cells := p.Regions[i.A]
	for k := range 9 {
		if i.C != 1<<k-1 {
			continue
		}
		for n := i.B; n <= i.B+i.C; n++ {
			if !within(n, len(cells)) || cells[n] != cells[i.B] {
				return false
			}
		}
		return true
	}
	return false
}

func TestProgramFaultAtEachFormAndNumber(t *testing.T) {
	numbers := []int64{15, 31, 255, 256, 1 << 32, 1<<32 + 1, math.MaxInt64, math.MinInt64, math.MinInt64 + 1}
	for n := int64(-2); n <= 13; n++ {
		numbers = append(numbers, n)
	}
	p := someProgram()
	held := map[int64]int{}
	for op := int64(0); op <= impl.MaxOp; op++ {
		for _, a := range numbers {
			for _, b := range numbers {
				for _, c := range numbers {
					i := impl.Instr{Op: op, A: a, B: b, C: c}
					p.Funcs[2].Code[3] = i
					want := int64(4)
					if wantedInstr(p, p.Funcs[2], i) {
						want = 0
						held[op]++
					}
					if got := impl.ProgramFault(p); got != want {
						t.Fatalf("%+v: fault %d, not %d", i, got, want)
					}
				}
			}
		}
	}
	if len(held) != impl.MaxOp+1 {
		t.Error("ops without a good instruction", len(held))
	}
}

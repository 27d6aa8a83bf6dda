package tests

import (
	"fmt"
	"math"
	"slices"
	"strings"
	"testing"

	"loop.example/s02548/impl"
)

// operands tells by the document's table what stands behind an instruction's name: those of A, B and C that are numbers, and in small letters those that are types.
func operands(op int64) string {
	switch op {
	case impl.OpConst, impl.OpLoadLocal, impl.OpStoreLocal, impl.OpCall:
		return "A"
	case impl.OpLoad, impl.OpStore:
		return "AB"
	case impl.OpLoadAt, impl.OpStoreAt:
		return "ABC"
	case impl.OpAdd, impl.OpSub, impl.OpMul, impl.OpDiv, impl.OpMod, impl.OpAnd, impl.OpOr, impl.OpXor, impl.OpNot, impl.OpEq, impl.OpLess:
		return "a"
	case impl.OpConv:
		return "ab"
	case impl.OpJump, impl.OpJumpZero:
		return "C"
	case impl.OpGuard:
		return "AC"
	}
	return ""
}

func typesInText(types []int64) string {
	text := ""
	for _, t := range types {
		text += " " + []string{"bool", "int", "uint"}[t-1]
	}
	return text
}

func instrText(i impl.Instr) string {
	text := instructionTable()[i.Op].info.Name
	for _, letter := range operands(i.Op) {
		switch letter {
		case 'A':
			text += fmt.Sprint(" ", i.A)
		case 'B':
			text += fmt.Sprint(" ", i.B)
		case 'C':
			text += fmt.Sprint(" ", i.C)
		case 'a':
			text += typesInText([]int64{i.A})
		case 'b':
			text += typesInText([]int64{i.B})
		}
	}
	return text + "\n"
}

// wantedText is the text of a program as the document tells it; the program may have a fault, if a text can tell it.
func wantedText(p impl.Program) string {
	var text strings.Builder
	for _, cells := range p.Regions {
		fmt.Fprintf(&text, "region%s\n", typesInText(cells))
	}
	for _, c := range p.Consts {
		fmt.Fprintf(&text, "const%s %d\n", typesInText([]int64{c.Type}), c.Word)
	}
	for _, f := range p.Funcs {
		result := " none"
		if f.Result != 0 {
			result = typesInText([]int64{f.Result})
		}
		fmt.Fprintf(&text, "func%s :%s :%s\n", typesInText(f.Params), result, typesInText(f.Locals))
		for _, i := range f.Code {
			text.WriteString(instrText(i))
		}
	}
	for _, c := range p.Certs {
		fmt.Fprintf(&text, "loop %d %d %d %d\n", c.Func, c.Head, c.Counter, c.Init)
	}
	return text.String()
}

// canBeTold: are all its types, names and numbers such that a text has them?
func canBeTold(p impl.Program) bool {
	isType := func(t int64) bool { return t >= 1 && t <= 3 }
	isNumber := func(n int64) bool { return n >= 0 && n < 1<<32 }
	good := len(p.Regions) == 3 && len(p.Funcs) > 0
	types := slices.Concat(p.Regions...)
	for _, c := range p.Consts {
		types = append(types, c.Type)
	}
	for _, c := range p.Certs {
		good = good && isNumber(c.Func) && isNumber(c.Head) && isNumber(c.Counter)
	}
	for _, f := range p.Funcs {
		types = slices.Concat(types, f.Params, f.Locals)
		good = good && (f.Result == 0 || isType(f.Result))
		for _, i := range f.Code {
			good = good && i.Op >= 0 && i.Op <= 29
			for n, number := range []int64{i.A, i.B, i.C} {
				switch rule := operands(i.Op); {
				case strings.ContainsRune(rule, rune("ABC"[n])):
					good = good && isNumber(number)
				case strings.ContainsRune(rule, rune("abc"[n])):
					good = good && isType(number)
				default:
					good = good && number == 0
				}
			}
		}
	}
	for _, t := range types {
		good = good && isType(t)
	}
	return good
}

// shortText shows a text in a message.
func shortText(text string) string {
	if len(text) > 600 {
		return fmt.Sprintf("%q .. (%d bytes)", text[:600], len(text))
	}
	return fmt.Sprintf("%q", text)
}

// checkFormat: the text of a program is what the document tells, and if it is not too long, the program is read back from it.
func checkFormat(t *testing.T, what string, p impl.Program) string {
	t.Helper()
	got := impl.FormatProgram(p)
	if impl.ProgramFault(p) != 0 {
		if got != "" {
			t.Fatalf("%s: a faulty one has the text %s", what, shortText(got))
		}
		return got
	}
	if want := wantedText(p); got != want {
		t.Fatalf("%s: the text is %s, not %s", what, shortText(got), shortText(want))
	}
	r := impl.ParseProgram(got)
	if len(got) > 65536 {
		if r.Code != 1 || !sameAnswers(r.Program, impl.Program{}) {
			t.Fatalf("%s: a text of %d bytes has the code %d", what, len(got), r.Code)
		}
	} else if r.Code != 0 || !sameAnswers(r.Program, p) || !impl.SameProgram(r.Program, p) {
		t.Fatalf("%s: read back with the code %d", what, r.Code)
	}
	return got
}

const leastText = "region\nregion\nregion\nfunc : none :\nreturn\n"

func TestFormatOfTheLeast(t *testing.T) {
	if got := checkFormat(t, "the least", leastProgram()); got != leastText {
		t.Errorf("%q", got)
	}
}

// All that there can be none of, one and several; by hand.
func TestFormatOfEachLine(t *testing.T) {
	for _, x := range []struct {
		want   string
		change func(p *impl.Program)
	}{
		{"region bool\nregion\nregion\nfunc : none :\nreturn\n", func(p *impl.Program) { p.Regions[0] = []int64{1} }},
		{"region\nregion int\nregion\nfunc : none :\nreturn\n", func(p *impl.Program) { p.Regions[1] = []int64{2} }},
		{"region\nregion\nregion uint\nfunc : none :\nreturn\n", func(p *impl.Program) { p.Regions[2] = []int64{3} }},
		{"region uint bool int\nregion bool bool\nregion int uint\nfunc : none :\nreturn\n", func(p *impl.Program) { p.Regions = [][]int64{{3, 1, 2}, {1, 1}, {2, 3}} }},
		{"region\nregion\nregion\nconst uint 0\nfunc : none :\nreturn\n", func(p *impl.Program) { p.Consts = []impl.Const{{Type: 3}} }},
		{"region\nregion\nregion\nconst uint 4294967295\nconst int 4294967295\nconst int 2147483648\nconst bool 1\nconst bool 0\nconst uint 10\nconst uint 4000000000\nfunc : none :\nreturn\n", func(p *impl.Program) {
			p.Consts = []impl.Const{{Type: 3, Word: math.MaxUint32}, {Type: 2, Word: math.MaxUint32}, {Type: 2, Word: 1 << 31}, {Type: 1, Word: 1}, {Type: 1}, {Type: 3, Word: 10}, {Type: 3, Word: 4000000000}}
		}},
		{"region\nregion\nregion\nfunc : none : int\nreturn\n", func(p *impl.Program) { p.Funcs[0].Locals = []int64{2} }},
		{"region\nregion\nregion\nfunc : none : int bool uint uint\nreturn\n", func(p *impl.Program) { p.Funcs[0].Locals = []int64{2, 1, 3, 3} }},
		{leastText + "func : bool :\nnop\n", func(p *impl.Program) { p.Funcs = append(p.Funcs, impl.Func{Result: 1, Code: make([]impl.Instr, 1)}) }},
		{leastText + "func int : none :\nnop\nnop\n", func(p *impl.Program) {
			p.Funcs = append(p.Funcs, impl.Func{Params: []int64{2}, Code: make([]impl.Instr, 2)})
		}},
		{leastText + "func uint int bool : int : bool uint\nnop\nfunc : uint : bool\nreturn\nnop\nfunc bool : none :\nnop\n", func(p *impl.Program) {
			p.Funcs = append(p.Funcs,
				impl.Func{Params: []int64{3, 2, 1}, Result: 2, Locals: []int64{1, 3}, Code: make([]impl.Instr, 1)},
				impl.Func{Result: 3, Locals: []int64{1}, Code: []impl.Instr{ret(), {}}},
				impl.Func{Params: []int64{1}, Code: make([]impl.Instr, 1)})
		}},
		{"region\nregion\nregion\nfunc : none : uint\nreturn\nloop 0 0 0 0\n", func(p *impl.Program) {
			p.Funcs[0].Locals, p.Certs = []int64{3}, []impl.Cert{{}}
		}},
		{"region\nregion\nregion\nfunc : none : bool uint\nnop\nreturn\nfunc uint : none :\nnop\nloop 0 0 1 7\nloop 0 1 1 4294967295\nloop 1 0 0 100\n", func(p *impl.Program) {
			p.Funcs = []impl.Func{{Locals: []int64{1, 3}, Code: []impl.Instr{{}, ret()}}, {Params: []int64{3}, Code: make([]impl.Instr, 1)}}
			p.Certs = []impl.Cert{{Counter: 1, Init: 7}, {Head: 1, Counter: 1, Init: math.MaxUint32}, {Func: 1, Init: 100}}
		}},
	} {
		p := leastProgram()
		x.change(&p)
		if got := checkFormat(t, x.want, p); got != x.want {
			t.Errorf("%q, not %q", got, x.want)
		}
	}
}

// instrLines are all instructions by hand, in the program below, where a number that is at another place has a fault or shows.
func instrLines() map[string]impl.Instr {
	return map[string]impl.Instr{
		"nop": {Op: impl.OpNop}, "const 0": {Op: impl.OpConst}, "const 2": {Op: impl.OpConst, A: 2},
		"loadlocal 0": {Op: impl.OpLoadLocal}, "loadlocal 11": {Op: impl.OpLoadLocal, A: 11}, "storelocal 3": {Op: impl.OpStoreLocal, A: 3},
		"load 0 1": {Op: impl.OpLoad, B: 1}, "load 1 0": {Op: impl.OpLoad, A: 1}, "load 2 255": {Op: impl.OpLoad, A: 2, B: 255}, "store 1 2": {Op: impl.OpStore, A: 1, B: 2}, "store 2 1": {Op: impl.OpStore, A: 2, B: 1},
		"loadat 0 2 3": {Op: impl.OpLoadAt, B: 2, C: 3}, "loadat 2 0 255": {Op: impl.OpLoadAt, A: 2, C: 255}, "loadat 0 3 0": {Op: impl.OpLoadAt, B: 3}, "storeat 1 3 7": {Op: impl.OpStoreAt, A: 1, B: 3, C: 7}, "storeat 2 128 127": {Op: impl.OpStoreAt, A: 2, B: 128, C: 127},
		"add int": {Op: impl.OpAdd, A: 2}, "add uint": {Op: impl.OpAdd, A: 3}, "sub int": {Op: impl.OpSub, A: 2}, "sub uint": {Op: impl.OpSub, A: 3}, "mul int": {Op: impl.OpMul, A: 2}, "mul uint": {Op: impl.OpMul, A: 3},
		"div int": {Op: impl.OpDiv, A: 2}, "div uint": {Op: impl.OpDiv, A: 3}, "mod int": {Op: impl.OpMod, A: 2}, "mod uint": {Op: impl.OpMod, A: 3},
		"and bool": {Op: impl.OpAnd, A: 1}, "and uint": {Op: impl.OpAnd, A: 3}, "or bool": {Op: impl.OpOr, A: 1}, "or uint": {Op: impl.OpOr, A: 3}, "xor bool": {Op: impl.OpXor, A: 1}, "xor uint": {Op: impl.OpXor, A: 3}, "not bool": {Op: impl.OpNot, A: 1}, "not uint": {Op: impl.OpNot, A: 3},
		"shl": {Op: impl.OpShl}, "shr": {Op: impl.OpShr}, "neg": {Op: impl.OpNeg},
		"eq bool": {Op: impl.OpEq, A: 1}, "eq int": {Op: impl.OpEq, A: 2}, "eq uint": {Op: impl.OpEq, A: 3}, "less int": {Op: impl.OpLess, A: 2}, "less uint": {Op: impl.OpLess, A: 3},
		"conv bool int": {Op: impl.OpConv, A: 1, B: 2}, "conv bool uint": {Op: impl.OpConv, A: 1, B: 3}, "conv int bool": {Op: impl.OpConv, A: 2, B: 1}, "conv int uint": {Op: impl.OpConv, A: 2, B: 3}, "conv uint bool": {Op: impl.OpConv, A: 3, B: 1}, "conv uint int": {Op: impl.OpConv, A: 3, B: 2},
		"dup": {Op: impl.OpDup}, "drop": {Op: impl.OpDrop},
		"jump 0": {Op: impl.OpJump}, "jump 20": {Op: impl.OpJump, C: 20}, "jumpzero 9": {Op: impl.OpJumpZero, C: 9}, "jumpzero 10": {Op: impl.OpJumpZero, C: 10},
		"guard 0 5": {Op: impl.OpGuard, C: 5}, "guard 5 0": {Op: impl.OpGuard, A: 5}, "guard 7 20": {Op: impl.OpGuard, A: 7, C: 20},
		"call 0": {Op: impl.OpCall}, "call 1": {Op: impl.OpCall, A: 1}, "return": {Op: impl.OpReturn},
	}
}

func TestFormatOfEachInstruction(t *testing.T) {
	seen := map[int64]int{}
	for line, i := range instrLines() {
		p := leastProgram()
		p.Regions = [][]int64{slices.Repeat([]int64{2}, 6), slices.Repeat([]int64{1}, 12), slices.Repeat([]int64{3}, 256)}
		p.Consts = []impl.Const{{Type: 1}, {Type: 2}, {Type: 3}}
		p.Funcs[0].Locals = slices.Repeat([]int64{3}, 12)
		p.Funcs[0].Code = append(slices.Repeat([]impl.Instr{{Op: impl.OpNop}}, 20), i)
		p.Funcs = append(p.Funcs, impl.Func{Code: []impl.Instr{ret()}})
		text := checkFormat(t, line, p)
		if want := "\nnop\n" + line + "\nfunc : none :\nreturn\n"; !strings.HasSuffix(text, want) {
			t.Errorf("%q: the text ends by %q", line, text[len(text)-50:])
		}
		// First, and alone in its function, if it may stand there.
		p.Funcs[0].Code = []impl.Instr{i}
		if impl.ProgramFault(p) == 0 && !strings.HasSuffix(checkFormat(t, line, p), " uint\n"+line+"\nfunc : none :\nreturn\n") {
			t.Errorf("%q alone: %s", line, shortText(impl.FormatProgram(p)))
		}
		seen[i.Op]++
	}
	for op := range int64(impl.MaxOp + 1) {
		if seen[op] == 0 {
			t.Error("never", impl.Info(op).Name)
		}
	}
}

// Programs at every limit have long texts: they are told in full.
func TestFormatOfPrograms(t *testing.T) {
	t.Parallel()
	long := 0
	for n, p := range slices.Concat(goodPrograms(), loadPrograms(), []impl.Program{passing(), many(), summing(), dear(impl.MaxCost)}) {
		if len(checkFormat(t, fmt.Sprint("program ", n), p)) > impl.MaxText {
			long++
		}
	}
	if long < 2 {
		t.Error("longer than a text that is read:", long)
	}
	if text := impl.FormatProgram(fullProgram()); !strings.HasSuffix(text, "loop 31 1023 5 4294967233\n") || strings.Count(text, "\n") != 3+64+32+32*1024+64 {
		t.Error("the full one:", len(text), strings.Count(text, "\n"))
	}
}

func TestFormatOfFaultyPrograms(t *testing.T) {
	t.Parallel()
	seen := map[int64]int{}
	for _, c := range faultCases() {
		p := someProgram()
		c.change(&p)
		if text := checkFormat(t, c.name, p); (text == "") != (c.want != 0) {
			t.Errorf("%s, by the fault %d: %s", c.name, c.want, shortText(text))
		}
		seen[c.want]++
	}
	for n, p := range append(oddPrograms(), tooMany()...) {
		if impl.FormatProgram(p) != "" && impl.ProgramFault(p) != 0 {
			t.Error("a text of odd program", n)
		}
		seen[impl.ProgramFault(p)]++
	}
	for fault := int64(0); fault <= 5; fault++ {
		if seen[fault] < 10 {
			t.Error("seldom the fault", fault, seen)
		}
	}
}

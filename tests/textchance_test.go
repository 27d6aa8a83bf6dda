package tests

import (
	"fmt"
	"reflect"
	"slices"
	"strings"
	"testing"

	"loop.example/s02548/impl"
)

// Each fault of a program that a text can tell, by hand: the fault of what is told, and the code 2.
func TestParseOfEachFault(t *testing.T) {
	const regions = "region\nregion\nregion\n"
	some := func(line string, count int) string { return strings.Repeat(line, count) }
	for text, fault := range map[string]int64{
		"region" + some(" int", 257) + "\nregion\nregion\nfunc : none :\nreturn\n":        1,
		"region\nregion\nregion" + some(" bool", 300) + "\nfunc : none :\nreturn\n":       1,
		regions + some("const int 3\n", 65) + "func : none :\nreturn\n":                   2,
		regions + "const bool 2\nfunc : none :\nreturn\n":                                 2,
		regions + "const bool 4294967295\nfunc : none :\nreturn\n":                        2,
		regions + some("func : none :\nreturn\n", 33):                                     3,
		regions + "func : none :\n":                                                       3,
		regions + "func : none :\nfunc : none :\nreturn\n":                                3,
		leastText + "func : none :\n":                                                     3,
		regions + "func int : none :\nreturn\n":                                           3,
		regions + "func : bool :\nreturn\n":                                               3,
		regions + "func : none :" + some(" uint", 33) + "\nreturn\n":                      3,
		leastText + "func" + some(" uint", 9) + " : none :\nreturn\n":                     3,
		leastText + "func uint : none :" + some(" uint", 32) + "\nreturn\n":               3,
		regions + "func : none :\n" + some("nop\n", 1025):                                 3,
		regions + "func : none :\nadd bool\n":                                             4,
		regions + "func : none :\nnot int\n":                                              4,
		regions + "func : none :\nless bool\n":                                            4,
		regions + "func : none :\nconv int int\n":                                         4,
		regions + "func : none :\njump 1\n":                                               4,
		regions + "func : none :\njumpzero 4294967295\n":                                  4,
		regions + "func : none :\nconst 0\n":                                              4,
		regions + "func : none :\nloadlocal 0\n":                                          4,
		regions + "func : none : uint\nguard 0 1\n":                                       4,
		regions + "func : none : uint\nguard 1 0\n":                                       4,
		regions + "func : none :\ncall 1\n":                                               4,
		regions + "func : none :\nload 0 0\n":                                             4,
		"region int\nregion\nregion\nfunc : none :\nload 3 0\n":                           4,
		"region int\nregion\nregion\nfunc : none :\nstore 0 0\n":                          4,
		"region int int int\nregion\nregion\nfunc : none :\nloadat 0 0 2\n":               4,
		"region int int int\nregion\nregion\nfunc : none :\nloadat 0 0 3\n":               4,
		"region int bool\nregion\nregion\nfunc : none :\nloadat 0 0 1\n":                  4,
		"region int int\nregion\nregion\nfunc : none :\nloadat 0 0 4294967295\n":          4,
		"region int int\nregion\nregion\nfunc : none :\nloadat 0 4294967295 1\n":          4,
		regions + "func : none :\nreturn\nloop 0 0 0 0\n":                                 5,
		regions + "func : none : int\nreturn\nloop 0 0 0 0\n":                             5,
		regions + "func : none : uint\nreturn\nloop 1 0 0 0\n":                            5,
		regions + "func : none : uint\nreturn\nloop 0 1 0 0\n":                            5,
		regions + "func : none : uint\nreturn\nloop 0 0 0 0\nloop 0 0 0 0\n":              5,
		regions + "func : none : uint\nreturn\nreturn\nloop 0 1 0 0\nloop 0 0 0 0\n":      5,
		regions + "func : none : uint\n" + some("nop\n", 65) + some("loop 0 0 0 0\n", 65): 5,
	} {
		r, good := wantedTold(text)
		if got := impl.ProgramFault(r.program); !good || got != fault {
			t.Errorf("%s is no text of the fault %d, but %d", shortText(text), fault, got)
		}
		checkTextCode(t, fmt.Sprint("fault ", fault), text, 2)
		// What is not of the form has the code 1, whatever fault there is besides.
		for what, other := range map[string]string{"no end": text[:len(text)-1], "a region more": "region\n" + text, "a blank": text[:len(text)-1] + " \n", "a line that is none": text + "x\n", "a scan": text + "scan\n", "a constant behind": text + "const int 1\n", "an empty line": text + "\n", "too long a number": text + "loop 0 0 0 4294967296\n", "too long": text + strings.Repeat("loop 0 0 0 0\n", 5042)} {
			checkTextCode(t, fmt.Sprint("fault ", fault, " and ", what), other, 1)
		}
	}
}

// Just at the limits there is no fault.
func TestParseAtTheLimits(t *testing.T) {
	p := fullProgram()
	for f := range p.Funcs {
		p.Funcs[f].Code = append(p.Funcs[f].Code[:10], ret())
		p.Funcs[f].Code[0].C = 10
		if f == 0 {
			p.Funcs[f].Code = append(p.Funcs[f].Code, manyNops(impl.MaxCode-11)...)
		}
	}
	for n := range p.Certs {
		p.Certs[n].Head = min(p.Certs[n].Head, 10)
	}
	if text := checkFormat(t, "at the limits", p); len(text) < 10000 || len(text) > impl.MaxText || strings.Count(text, "\n") != 3+64+32+31*11+1024+64 {
		t.Error("at the limits:", len(text), impl.ProgramFault(p), strings.Count(text, "\n"))
	}
}

// The changes of which the codes of faults are known, as texts.
func TestParseOfFaultyPrograms(t *testing.T) {
	t.Parallel()
	seen := map[int64]int{}
	for _, c := range faultCases() {
		p := someProgram()
		c.change(&p)
		if !canBeTold(p) {
			continue
		}
		text := wantedText(p)
		want := int64(0)
		if c.want != 0 {
			want = 2
		}
		checkTextCode(t, c.name, text, want)
		checkTextCode(t, c.name+", and a line more", text+"nop nop\n", 1)
		seen[c.want]++
	}
	for _, p := range tooMany() {
		if canBeTold(p) && len(wantedText(p)) <= impl.MaxText {
			checkTextCode(t, "too many", wantedText(p), 2)
		}
	}
	if seen[0] < 30 || seen[1] < 3 || seen[2] < 10 || seen[3] < 10 || seen[4] < 15 || seen[5] < 30 {
		t.Error("seldom:", seen)
	}
}

// anyInstr is an instruction without a fault, where there may be nothing to name.
func (d *dice) anyInstr(p impl.Program, f impl.Func) impl.Instr {
	for {
		i := instr(d.number(impl.MaxOp + 1))
		for _, letter := range operands(i.Op) {
			n := d.number([]int{2, 4, 40, 260}[d.next(4)])
			if i.Op == impl.OpLoadAt || i.Op == impl.OpStoreAt {
				n = []int64{n, 1<<(n&7) - 1}[d.next(2)]
			}
			switch letter &^ 32 {
			case 'A':
				i.A = n
			case 'B':
				i.B = n
			case 'C':
				i.C = n
			}
		}
		if wantedInstr(p, f, i) {
			return i
		}
	}
}

// anyProgram is one without a fault, of any counts.
func (d *dice) anyProgram() impl.Program {
	count := func(most int) int { return d.next([]int{1, 2, 4, most + 1}[d.next(4)]) }
	words := edgeWords()
	p := impl.Program{}
	for range 3 {
		cells := d.types(count(impl.MaxCells))
		if d.next(3) == 0 {
			cells = slices.Repeat(d.types(1), len(cells))
		}
		p.Regions = append(p.Regions, cells)
	}
	for range count(impl.MaxConsts) {
		c := impl.Const{Type: 1 + d.number(3), Word: words[d.next(len(words))]}
		if c.Type == impl.TypeBool {
			c.Word &= 1
		}
		p.Consts = append(p.Consts, c)
	}
	for n := range 1 + count(impl.MaxFuncs-1) {
		f := impl.Func{Locals: d.types(count(impl.MaxLocals - impl.MaxParams))}
		if n > 0 {
			f.Params, f.Result = d.types(count(impl.MaxParams)), d.number(4)
		}
		p.Funcs = append(p.Funcs, f)
	}
	for n := range p.Funcs {
		f := &p.Funcs[n]
		f.Code = make([]impl.Instr, 1+count([]int{10, 10, impl.MaxCode - 1}[d.next(3)]))
		for at := range f.Code {
			f.Code[at] = d.anyInstr(p, *f)
		}
	}
	d.certify(&p)
	return p
}

// certify adds certificates of any instructions.
func (d *dice) certify(p *impl.Program) {
	for n, f := range p.Funcs {
		counter := slices.Index(slices.Concat(f.Params, f.Locals), impl.TypeUint)
		for head := range f.Code {
			if counter >= 0 && d.next(7) == 0 && len(p.Certs) < impl.MaxCerts {
				p.Certs = append(p.Certs, impl.Cert{Func: int64(n), Head: int64(head), Counter: int64(counter), Init: edgeWords()[d.next(len(edgeWords()))]})
			}
		}
	}
}

// Many programs by chance: each is read back from its text.
func TestManyProgramsAreReadBack(t *testing.T) {
	t.Parallel()
	d := dice(211)
	ops, longest, empty, certs := map[int64]int{}, 0, [4]int{}, 0
	for round := range 1500 {
		p := d.anyProgram()
		switch round % 10 {
		case 0:
			p = d.program()
		case 1:
			p = d.certifiedProgram(round%20 == 1)
		case 2:
			p = d.shuffled()
		}
		if code := impl.ProgramFault(p); code != 0 {
			if round%10 == 1 {
				continue
			}
			t.Fatal("the fault", code, "in round", round)
		}
		text := checkFormat(t, fmt.Sprint("round ", round), p)
		longest = max(longest, len(text))
		for n, cells := range p.Regions {
			if len(cells) == 0 {
				empty[n]++
			}
		}
		if len(p.Consts) == 0 {
			empty[3]++
		}
		certs += len(p.Certs)
		for _, f := range p.Funcs {
			for _, i := range f.Code {
				ops[i.Op]++
			}
		}
	}
	for op := range int64(impl.MaxOp + 1) {
		if ops[op] < 500 {
			t.Error("seldom", impl.Info(op).Name, ops[op])
		}
	}
	if longest < 20000 || slices.Min(empty[:]) < 100 || certs < 1000 {
		t.Error("the longest", longest, "without cells or constants", empty, "certificates", certs)
	}
}

// changeNumber gives one number of a program another value.
func (d *dice) changeNumber(p *impl.Program) {
	var numbers []reflect.Value
	eachNumber(reflect.ValueOf(p).Elem(), func(n reflect.Value) { numbers = append(numbers, n) })
	n := numbers[d.next(len(numbers))]
	setNumber(n, []int64{numberIn(n) + 1, numberIn(n) - 1, 0, 1, 2, 3, 9, 4294967295, 4294967296}[d.next(9)])
}

// Programs with one number changed by chance: with a fault there is no text, and all others are read back.
func TestManyChangedProgramsAsText(t *testing.T) {
	t.Parallel()
	d := dice(223)
	good, told := 0, map[int64]int{}
	for round := range 4000 {
		p := copyOf(someProgram())
		if round%3 == 0 {
			p = d.program()
		}
		for range 1 + d.next(2) {
			d.changeNumber(&p)
		}
		if checkFormat(t, fmt.Sprint("round ", round), p) != "" {
			good++
		}
		if fault := impl.ProgramFault(p); fault != 0 && canBeTold(p) {
			checkTextCode(t, fmt.Sprint("round ", round), wantedText(p), 2)
			told[fault]++
		}
	}
	if good < 300 || told[2] < 5 || told[3] < 5 || told[4] < 200 || told[5] < 50 {
		t.Error("good", good, "faults that are told", told)
	}
}

// vocabulary are words of texts, and some that are none.
func vocabulary() []string {
	words := []string{"region", "const", "func", "loop", "scan", "none", ":", "bool", "int", "uint", "0", "1", "2", "3", "4", "7", "10", "255", "256", "4294967295", "4294967296", "01", "-1", "", "x", "Bool"}
	for _, row := range instructionTable() {
		words = append(words, row.info.Name)
	}
	return words
}

// spoilText changes a text at one place: a byte, a word or a line.
func (d *dice) spoilText(text string) string {
	lines := linesOf(text + "\n")
	n := d.next(len(lines))
	words := strings.Split(strings.TrimSuffix(lines[n], "\n"), " ")
	k := d.next(len(words))
	fresh := vocabulary()
	word := fresh[d.next(len(fresh))]
	at := d.next(len(text) + 1)
	switch d.next(11) {
	case 0:
		const signs = " \n0123456789bintunone:\r\xc3"
		sign := d.next(len(signs))
		return text[:at] + signs[sign:sign+1] + text[at:]
	case 1:
		return text[:at] + text[min(at+1, len(text)):]
	case 2:
		return text[:at] + string([]byte{byte(d.next(256))}) + text[min(at+1, len(text)):]
	case 3:
		words = slices.Delete(words, k, k+1)
	case 4, 5, 6:
		words[k] = word
	case 7:
		words = slices.Insert(words, k, word)
	case 8:
		lines = slices.Insert(lines, n, lines[d.next(len(lines))])
		return strings.TrimSuffix(strings.Join(lines, ""), "\n")
	case 9:
		return strings.TrimSuffix(strings.Join(slices.Delete(lines, n, n+1), ""), "\n")
	default:
		l := d.next(len(words))
		words[k], words[l] = words[l], words[k]
	}
	lines[n] = strings.Join(words, " ") + "\n"
	return strings.TrimSuffix(strings.Join(lines, ""), "\n")
}

// Texts spoilt at one place or several: what is read is written as it was, and all others have a code and no program.
func TestManySpoiltTexts(t *testing.T) {
	t.Parallel()
	d := dice(227)
	codes := map[int64]int{}
	for round := range 12000 {
		text := []string{wholeText(), leastText, wantedText(someProgram()), wantedText(passing())}[d.next(4)]
		if round%50 == 0 {
			if drawn := wantedText(d.anyProgram()); len(drawn) < 3000 {
				text = drawn
			}
		}
		for range 1 + d.next(1+d.next(4)) {
			text = d.spoilText(text)
		}
		codes[checkParse(t, fmt.Sprint("round ", round), text)]++
	}
	if codes[0] < 800 || codes[1] < 4000 || codes[2] < 400 {
		t.Error("codes", codes)
	}
}

// Texts of words by chance, line by line.
func TestManyTextsOfWords(t *testing.T) {
	t.Parallel()
	d := dice(229)
	codes := map[int64]int{}
	lines := slices.Concat(linesOf(wholeText()), []string{"region\n", "region\n", "region int\n", "func : none :\n", "func : none : uint\n", "return\n", "nop\n", "dup\n", "call 0\n", "loop 0 0 0 1\n", "scan 1\n"})
	for round := range 20000 {
		text := "region\nregion uint\nregion int\nfunc : none : uint\n"
		for range d.next(7) {
			text += lines[d.next(len(lines))]
		}
		codes[checkParse(t, fmt.Sprint("round ", round), text)]++
	}
	if codes[0] < 200 || codes[1] < 5000 || codes[2] < 2000 {
		t.Error("codes", codes)
	}
}

package tests

import (
	"fmt"
	"regexp"
	"slices"
	"strconv"
	"strings"
	"sync"
	"testing"

	"loop.example/s02548/impl"
)

// textForm is the form of a text, with scans behind the program.
var textForm = sync.OnceValue(func() *regexp.Regexp {
	var lines []string
	for _, row := range instructionTable() {
		line := row.info.Name
		for _, letter := range operands(row.op) {
			if strings.ContainsRune("ABC", letter) {
				line += " N"
			} else {
				line += " T"
			}
		}
		lines = append(lines, line)
	}
	form := `\A(?:region(?: T)*\n){3}(?:const T N\n)*(?:func(?: T)* : (?:none|T) :(?: T)*\n(?:(?:` + strings.Join(lines, "|") + `)\n)*)+(?:loop N N N N\n)*(?:scan(?: N)*\n)*\z`
	form = strings.NewReplacer("T", `(?:bool|int|uint)`, "N", `(?:0|[1-9][0-9]*)`).Replace(form)
	return regexp.MustCompile(form)
})

// told is what a text tells.
type told struct {
	program impl.Program
	scans   [][]uint32
}

// wantedTold tells what a text of the form tells; false if it is not of it.
func wantedTold(text string) (told, bool) {
	var r told
	if len(text) > 65536 || !textForm().MatchString(text) {
		return r, false
	}
	for _, line := range strings.Split(strings.TrimSuffix(text, "\n"), "\n") {
		words := strings.Fields(line)
		// Types and numbers, each in the order in which they stand; other words are neither.
		var types, numbers []int64
		for _, word := range words[1:] {
			if at := slices.Index([]string{"bool", "int", "uint"}, word); at >= 0 {
				types = append(types, int64(at+1))
			}
			if word[0] >= '0' && word[0] <= '9' {
				n, err := strconv.ParseUint(word, 10, 32)
				if err != nil {
					return told{}, false
				}
				numbers = append(numbers, int64(n))
			}
		}
		r.add(words, types, numbers)
	}
	return r, true
}

func (r *told) add(words []string, types []int64, numbers []int64) {
	p := &r.program
	switch {
	case words[0] == "region":
		p.Regions = append(p.Regions, types)
	case words[0] == "const" && len(types) == 1:
		p.Consts = append(p.Consts, impl.Const{Type: types[0], Word: uint32(numbers[0])})
	case words[0] == "func":
		f := impl.Func{}
		first := slices.Index(words, ":")
		f.Params, f.Locals = types[:first-1], types[first-1:]
		if words[first+1] != "none" {
			f.Result, f.Locals = f.Locals[0], f.Locals[1:]
		}
		p.Funcs = append(p.Funcs, f)
	case words[0] == "loop":
		p.Certs = append(p.Certs, impl.Cert{Func: numbers[0], Head: numbers[1], Counter: numbers[2], Init: uint32(numbers[3])})
	case words[0] == "scan":
		var inputs []uint32
		for _, n := range numbers {
			inputs = append(inputs, uint32(n))
		}
		r.scans = append(r.scans, inputs)
	default:
		op := slices.IndexFunc(instructionTable(), func(row tableRow) bool { return row.info.Name == words[0] })
		i := impl.Instr{Op: int64(op)}
		for n, letter := range operands(i.Op) {
			value := append(numbers, types...)[n]
			*map[rune]*int64{'A': &i.A, 'B': &i.B, 'C': &i.C}[letter&^32] = value
		}
		f := &p.Funcs[len(p.Funcs)-1]
		f.Code = append(f.Code, i)
	}
}

func wantedParse(text string) impl.ProgramResult {
	r, good := wantedTold(text)
	switch {
	case !good || len(r.scans) > 0:
		return impl.ProgramResult{Code: 1}
	case impl.ProgramFault(r.program) != 0:
		return impl.ProgramResult{Code: 2}
	}
	return impl.ProgramResult{Program: r.program}
}

// checkParse: a text has its code, or its program, of which it is the text.
func checkParse(t *testing.T, what string, text string) int64 {
	t.Helper()
	got, want := impl.ParseProgram(text), wantedParse(text)
	if got.Code != want.Code || !sameAnswers(got.Program, want.Program) {
		t.Fatalf("%s: code %d of %s, not %d, or another program", what, got.Code, shortText(text), want.Code)
	}
	if got.Code == 0 && impl.FormatProgram(got.Program) != text {
		t.Fatalf("%s: written otherwise than %s", what, shortText(text))
	}
	return got.Code
}

func checkTextCode(t *testing.T, what string, text string, want int64) {
	t.Helper()
	if got := checkParse(t, what, text); got != want {
		t.Errorf("%s: code %d, not %d, of %s", what, got, want, shortText(text))
	}
}

// wholeText has each kind of line and each form of instruction, and no fault.
func wholeText() string {
	return "region bool uint uint int\nregion uint uint uint uint bool\nregion int\n" +
		"const bool 1\nconst int 4294967295\nconst uint 10\n" +
		"func : none : uint bool int\n" +
		"nop\nconst 2\nstorelocal 0\nguard 0 7\nloadlocal 0\nstore 1 3\njump 3\nconst 2\nloadat 1 0 3\nload 0 1\nadd uint\nstoreat 1 0 1\nload 0 0\nnot bool\njumpzero 16\ncall 1\nreturn\n" +
		"func bool uint : int : uint\nload 2 0\nconv int uint\nload 0 2\neq uint\nless int\nneg\nshl\ndup\ndrop\nreturn\n" +
		"func int : none :\nreturn\n" +
		"loop 0 3 0 10\nloop 1 4 1 4294967295\n"
}

// linesOf are the lines of a text, each with its end.
func linesOf(text string) []string {
	lines := strings.SplitAfter(text, "\n")
	return lines[:len(lines)-1]
}

func TestParseOfWhatIsWhole(t *testing.T) {
	for what, text := range map[string]string{"whole": wholeText(), "least": leastText} {
		checkTextCode(t, what, text, 0)
	}
	r := impl.ParseProgram(wholeText())
	want := impl.Program{
		Regions: [][]int64{{1, 3, 3, 2}, {3, 3, 3, 3, 1}, {2}},
		Consts:  []impl.Const{{Type: 1, Word: 1}, {Type: 2, Word: 4294967295}, {Type: 3, Word: 10}},
		Funcs: []impl.Func{
			{Locals: []int64{3, 1, 2}, Code: []impl.Instr{instr(0), instr(1, 2), instr(3, 0), instr(27, 0, 0, 7), instr(2, 0), instr(5, 1, 3), instr(25, 0, 0, 3), instr(1, 2), instr(6, 1, 0, 3), instr(4, 0, 1), instr(8, 3), instr(7, 1, 0, 1), instr(4), instr(16, 1), instr(26, 0, 0, 16), instr(28, 1), instr(29)}},
			{Params: []int64{1, 3}, Result: 2, Locals: []int64{3}, Code: []impl.Instr{instr(4, 2, 0), instr(22, 2, 3), instr(4, 0, 2), instr(20, 3), instr(21, 2), instr(19), instr(17), instr(23), instr(24), instr(29)}},
			{Params: []int64{2}, Code: []impl.Instr{instr(29)}},
		},
		Certs: []impl.Cert{{Func: 0, Head: 3, Counter: 0, Init: 10}, {Func: 1, Head: 4, Counter: 1, Init: 4294967295}},
	}
	if r.Code != 0 || !sameAnswers(r.Program, want) {
		t.Errorf("%+v", r)
	}
}

// wrongNumerals are no numbers below 2^32 as they are written.
func wrongNumerals() []string {
	return []string{"", "00", "01", "007", "0000000000", "00000000001", "-1", "-0", "+1", "+0", "1.0", "1.", "1e3", "0x1", "0b1", "1_000", "_1", "1,000", "4294967296", "4294967297", "9999999999", "10000000000", "9223372036854775808", "18446744073709551615", "18446744073709551616", "18446744073709551617", "04294967295", strings.Repeat("1", 100), strings.Repeat("0", 100), strings.Repeat("9", 5000), "\u0663", "\uff11", "1\u0660", "1\x00", "\x001", "\xff", "1\xff", "1\r", "1\t", "\t1", "1\v", "bool", "int", "uint", "none", ":", "x", "return", "one", "1:", "-", "+"}
}

func rightNumerals() []string {
	return []string{"0", "1", "2", "9", "10", "99", "100", "255", "256", "1023", "1024", "65535", "65536", "2147483647", "2147483648", "3999999999", "4294967289", "4294967294", "4294967295"}
}

func wrongTypeNames() []string {
	return []string{"", "Bool", "BOOL", "boo", "booll", "ints", "in", "Uint", "uint32", "unit", "word", "0", "1", "2", "3", ":", "b", "i", "u", "bool\t", "\tbool", "int\r", "uint\x00", "\xef\xbb\xbfint", "i\u0578t", "int\u00a0", "\xffint", "return", "const", "bool:", "booluint", "bool,int", "any"}
}

// eachWord gives the text with another word at each place where there is one of this kind.
func eachWord(text string, isKind func(word string) bool, other string, visit func(at string, text string)) {
	lines := linesOf(text)
	for n, line := range lines {
		words := strings.Split(strings.TrimSuffix(line, "\n"), " ")
		for k, word := range words {
			if k == 0 || !isKind(word) {
				continue
			}
			changed := slices.Clone(words)
			changed[k] = other
			around := slices.Clone(lines)
			around[n] = strings.Join(changed, " ") + "\n"
			visit(fmt.Sprintf("word %d of line %d is %q", k, n, other), strings.Join(around, ""))
		}
	}
}

func isNumeral(word string) bool { return word != "" && word[0] >= '0' && word[0] <= '9' }

func isTypeName(word string) bool { return word == "bool" || word == "int" || word == "uint" }

func TestParseOfNumbers(t *testing.T) {
	places, codes := 0, map[int64]int{}
	for _, word := range wrongNumerals() {
		eachWord(wholeText(), isNumeral, word, func(at string, text string) {
			checkTextCode(t, at, text, 1)
			places++
		})
	}
	for _, word := range rightNumerals() {
		eachWord(wholeText(), isNumeral, word, func(at string, text string) {
			code := checkParse(t, at, text)
			if code == 1 {
				t.Errorf("%s: code 1", at)
			}
			codes[code]++
		})
	}
	if places < 1000 || codes[0] < 100 || codes[2] < 300 {
		t.Error("places", places, "codes", codes)
	}
	// A word that is read is the one that stands there.
	for _, word := range rightNumerals() {
		text := "region\nregion\nregion\nconst uint " + word + "\nfunc : none : uint\nreturn\nloop 0 0 0 " + word + "\n"
		checkTextCode(t, word, text, 0)
		p := impl.ParseProgram(text).Program
		if fmt.Sprint(p.Consts[0].Word) != word || fmt.Sprint(p.Certs[0].Init) != word {
			t.Errorf("%s is read as %d and %d", word, p.Consts[0].Word, p.Certs[0].Init)
		}
	}
}

func TestParseOfTypes(t *testing.T) {
	places, codes := 0, map[int64]int{}
	for _, word := range wrongTypeNames() {
		eachWord(wholeText(), isTypeName, word, func(at string, text string) {
			checkTextCode(t, at, text, 1)
			places++
		})
	}
	for _, word := range []string{"bool", "int", "uint"} {
		eachWord(wholeText(), isTypeName, word, func(at string, text string) {
			code := checkParse(t, at, text)
			if code == 1 {
				t.Errorf("%s: code 1", at)
			}
			codes[code]++
		})
	}
	if places < 700 || codes[0] < 40 || codes[2] < 15 {
		t.Error("places", places, "codes", codes)
	}
	// What is none stands for a result alone, and nothing else stands for none.
	eachWord(wholeText(), isTypeName, "none", func(at string, text string) {
		want := int64(1)
		if strings.Contains(text, ": none : uint\nload") {
			want = 0
		}
		checkTextCode(t, at, text, want)
	})
	for _, word := range append(wrongTypeNames(), "None", "NONE", "nil", "non", "nones", "void", "none none") {
		eachWord(wholeText(), func(word string) bool { return word == "none" }, word, func(at string, text string) { checkTextCode(t, at, text, 1) })
	}
}

// The first line of a function, by hand.
func TestParseOfFunctionLines(t *testing.T) {
	for line, want := range map[string]int64{
		"func : none :": 0, "func : int :": 0, "func bool : none :": 0, "func bool int : uint : int": 0, "func : none : bool bool": 0, "func bool bool bool : bool : bool bool bool": 0,
		"func": 1, "func :": 1, "func : :": 1, "func none": 1, "func none :": 1, "func : none": 1, "func none : :": 1, "func : : none": 1, "func : none none :": 1, "func : int int :": 1, "func : none : :": 1, "func : none : int :": 1, "func :: none :": 1, "func : none ::": 1, "func:none:": 1, "func :none:": 1, "func : none:": 1,
		"func bool int : uint": 1, "func bool int uint": 1, "func bool : : int": 1, "func : bool : : int": 1, "func : none : none": 1, "func none : none :": 1, "func 1 : none :": 1, "func : 0 :": 1, "func : none : 3": 1, "func 0 : none : 0": 1, "func ; none ;": 1, "func : none : ": 1, " func : none :": 1, "func  : none :": 1, "func :  none :": 1, "func : none  :": 1, "func : none :  int": 1, "Func : none :": 1, "funcs : none :": 1, "fun : none :": 1, "func : none : int ": 1, "func : none :\t": 1, "func\t: none :": 1, "func 0 : none :": 1, ": none :": 1, "func : none : int return": 1,
		"func bool bool bool bool bool bool bool bool : none :": 0, "func bool bool bool bool bool bool bool bool bool : none :": 2, "func : none :" + strings.Repeat(" uint", 32): 0, "func : none :" + strings.Repeat(" uint", 33): 2, "func int : none :" + strings.Repeat(" uint", 32): 2,
	} {
		checkTextCode(t, "a second function", leastText+line+"\nreturn\n", want)
		// Function 0 has a fault if it has parameters or a result, and each one without instructions.
		first, bare := want, int64(2)
		if want == 1 {
			bare = 1
		} else if !strings.HasPrefix(line, "func : none :") {
			first = 2
		}
		checkTextCode(t, "the first function", "region\nregion\nregion\n"+line+"\nreturn\n", first)
		checkTextCode(t, "without instructions", leastText+line+"\n", bare)
	}
}

// Each form of instruction, with all numbers of words that it does not have, numbers where types must stand, and types where numbers must.
func TestParseOfInstructionLines(t *testing.T) {
	const ahead, behind = "region int int\nregion int int\nregion int int\nconst int 1\nconst int 1\nfunc : none : uint uint\nnop\n", "\nreturn\n"
	for _, row := range instructionTable() {
		rule := operands(row.op)
		for count := range 6 {
			for kinds := range 1 << count {
				line := row.info.Name
				fits := count == len(rule)
				for n := range count {
					isType := kinds>>n&1 == 1
					line += map[bool]string{true: " int", false: " 1"}[isType]
					fits = fits && isType == (rule[n] >= 'a')
				}
				code := checkParse(t, line, ahead+line+behind)
				if (code == 1) == fits {
					t.Errorf("%q: code %d", line, code)
				}
				for _, more := range []string{" ", "  ", "\t", " 0", " int", " :", " none", "\r", " \x00", "\x00", "\u00a0"} {
					if fits {
						checkTextCode(t, line+more, ahead+line+more+behind, 1)
					}
				}
				checkTextCode(t, "a blank ahead of "+line, ahead+" "+line+behind, 1)
			}
		}
		name := row.info.Name
		good := strings.TrimSuffix(instrText(impl.Instr{Op: row.op, A: 1, B: 1, C: 1}), "\n")
		for _, other := range []string{"", strings.ToUpper(name), strings.ToUpper(name[:1]) + name[1:], name[1:] + "y", name[:len(name)-1] + "x", name + "s", name + name, "y" + name, name + ":", fmt.Sprint(row.op), "\xef\xbb\xbf" + name, name + "\x00", "\xff" + name, "_", "#" + name} {
			checkTextCode(t, "another name", ahead+strings.Replace(good, name, other, 1)+behind, 1)
		}
		checkTextCode(t, "two in a line", ahead+good+" "+good+behind, 1)
	}
}

// The other lines, by hand, at each place where they may stand.
func TestParseOfOtherLines(t *testing.T) {
	for line, want := range map[string]int64{
		"const uint 7": 0, "const int 4294967295": 0, "const bool 0": 0, "const bool 1": 0, "const bool 2": 2, "const bool 4294967295": 2,
		"const": 1, "const uint": 1, "const 7": 1, "const uint 7 7": 1, "const uint int 7": 1, "const 7 uint": 1, "const uint uint": 1, "const none 0": 1, "const uint 4294967296": 1, "const bool true": 1, "const uint -1": 1, "const uint 7 ": 1, "const  uint 7": 1, "const uint  7": 1, " const uint 7": 1, "Const uint 7": 1, "consts uint 7": 1, "const uint 07": 1, "const uint :": 1, "const : 7": 1, "const bool 1 :": 1, "const uint\t7": 1,
		"loop 0 0 0 0": 1, "nop": 1, "return": 1, "const 0": 1, "scan": 1, "": 1, " ": 1, "region": 1, "region int": 1, "none": 1, ":": 1, "uint": 1, "7": 1,
	} {
		checkTextCode(t, "a constant", "region\nregion\nregion\n"+line+"\nfunc : none :\nreturn\n", want)
		checkTextCode(t, "a second constant", "region\nregion\nregion\nconst int 5\n"+line+"\nfunc : none :\nreturn\n", want)
	}
	for line, want := range map[string]int64{
		"region": 0, "region bool": 0, "region int uint bool bool": 0, "region" + strings.Repeat(" int", 256): 0, "region" + strings.Repeat(" int", 257): 2,
		"": 1, " ": 1, "region ": 1, " region": 1, "region  bool": 1, "region bool ": 1, "region bool  int": 1, "region none": 1, "region 0": 1, "region 3": 1, "region :": 1, "region bool :": 1, "region : bool": 1, "regions": 1, "Region": 1, "regio": 1, "region bool 1": 1, "region bool,int": 1, "const uint 7": 1, "nop": 1, "scan": 1, "loop 0 0 0 0": 1, "func : none :": 1, "bool": 1, "region\tbool": 1, "region bool region": 1, "region\r": 1,
	} {
		for n := range 3 {
			lines := slices.Repeat([]string{"region\n"}, 3)
			lines[n] = line + "\n"
			checkTextCode(t, "a region", strings.Join(lines, "")+"func : none :\nreturn\n", want)
		}
	}
	for line, want := range map[string]int64{
		"loop 0 0 0 0": 0, "loop 0 0 0 4294967295": 0, "loop 0 1 0 7": 0, "loop 0 2 0 7": 2, "loop 1 0 0 7": 2, "loop 0 0 1 7": 2, "loop 0 0 2 7": 2, "loop 4294967295 0 0 0": 2, "loop 0 4294967295 0 0": 2, "loop 0 0 4294967295 0": 2,
		"loop": 1, "loop 0": 1, "loop 0 0": 1, "loop 0 0 0": 1, "loop 0 0 0 0 0": 1, "loop uint 0 0 0": 1, "loop 0 uint 0 0": 1, "loop 0 0 uint 0": 1, "loop 0 0 0 uint": 1, "loop 0 0 0 4294967296": 1, "loop 4294967296 0 0 0": 1, "loop 0 4294967296 0 0": 1, "loop 0 0 4294967296 0": 1, "loop 00 0 0 0": 1, "loop 0 01 0 0": 1, "loop 0 0 -1 0": 1, "loop 0 0 0 +1": 1, "loop 0 0 0 0 ": 1, " loop 0 0 0 0": 1, "loop  0 0 0 0": 1, "loop 0 0 0  0": 1, "Loop 0 0 0 0": 1, "loops 0 0 0 0": 1, "loop 0 0 0 none": 1, "loop 0 0 0 :": 1, "loop : 0 0 0": 1, "loop 0 0 0 0 :": 1, "loop\t0 0 0 0": 1, "loop 0 0 0 0\r": 1, "": 1, " ": 1, "region": 1, "const uint 7": 1, "scan": 1, "scan 1": 1,
	} {
		text := "region\nregion\nregion\nfunc : none : uint bool\nnop\nreturn\n"
		checkTextCode(t, "a certificate", text+line+"\n", want)
		if want == 1 {
			checkTextCode(t, "a second certificate", text+"loop 0 1 0 9\n"+line+"\n", 1)
		}
	}
}

package tests

import (
	"fmt"
	"math"
	"slices"
	"strconv"
	"strings"
	"testing"

	"loop.example/s02548/impl"
)

// worded reads code as words: b i u push a constant of that type, d is dup, x drop, n nop, r return, j4 a jump and z4 a jumpzero to 4; others have their name and numbers: add:3, loadat:1:2:3, guard:3:4 (a local and a place).
func worded(text string) []impl.Instr {
	short := map[byte]int64{'b': impl.OpConst, 'i': impl.OpConst, 'u': impl.OpConst, 'd': impl.OpDup, 'x': impl.OpDrop}
	var code []impl.Instr
	for _, word := range strings.Fields(text) {
		parts := strings.Split(word, ":")
		var numbers []int64
		for _, part := range parts[1:] {
			n, _ := strconv.ParseInt(part, 10, 64)
			numbers = append(numbers, n)
		}
		op := impl.OpOf(parts[0])
		switch {
		case op == impl.OpGuard:
			code = append(code, instr(op, numbers[0], 0, numbers[1]))
		case op >= 0:
			code = append(code, instr(op, numbers...))
		case short[word[0]] == impl.OpConst:
			code = append(code, push(int64(strings.IndexByte(" biu", word[0]))))
		case short[word[0]] != 0:
			code = append(code, instr(short[word[0]]))
		default:
			code = append(code, codeOf(word)...)
		}
	}
	return code
}

// push is one of a value of this type, in a workshop.
func push(of int64) impl.Instr { return instr(impl.OpConst, of-1) }

func pushes(types []int64) []impl.Instr {
	var code []impl.Instr
	for _, n := range types {
		code = append(code, push(n))
	}
	return code
}

func drops(count int) []impl.Instr {
	return slices.Repeat([]impl.Instr{instr(impl.OpDrop)}, count)
}

// typed is a workshop whose function 1 (locals int, uint, bool, uint, int) has this result and code.
func typed(result int64, code []impl.Instr) impl.Program {
	p := workshop(instr(impl.OpNop))
	p.Funcs[1].Result, p.Funcs[1].Code = result, code
	return p
}

func resultTypes(f impl.Func) []int64 {
	if f.Result == 0 {
		return nil
	}
	return []int64{f.Result}
}

func typesGiven(p impl.Program, f impl.Func, i impl.Instr) []int64 {
	if i.Op == impl.OpCall {
		return resultTypes(p.Funcs[i.A])
	}
	return wantedGives(p, f, i)
}

// wantedChange: the shape behind an instruction, or a code.
func wantedChange(p impl.Program, f impl.Func, i impl.Instr, shape []int64) ([]int64, int64) {
	if i.Op == impl.OpReturn {
		if !slices.Equal(shape, resultTypes(f)) {
			return nil, 5
		}
		return nil, 0
	}
	takes := wantedTakes(p, f, i)
	if len(takes) > len(shape) {
		return nil, 1
	}
	left, taken := shape[:len(shape)-len(takes)], shape[len(shape)-len(takes):]
	for k, want := range takes {
		if want != 0 && taken[k] != want {
			return nil, 2
		}
	}
	if i.Op == impl.OpGuard && append(append([]int64{}, f.Params...), f.Locals...)[i.A] != impl.TypeUint {
		return nil, 2
	}
	behind := append([]int64{}, left...)
	for _, given := range typesGiven(p, f, i) {
		if given == 0 {
			given = taken[0]
		}
		behind = append(behind, given)
	}
	if len(behind) > 64 {
		return nil, 3
	}
	return behind, 0
}

// wantedTypes goes through the blocks as the document tells it.
func wantedTypes(p impl.Program, number int64) impl.TypeResult {
	if impl.ProgramFault(p) != 0 || !within(number, len(p.Funcs)) {
		return impl.TypeResult{Code: 6}
	}
	f := p.Funcs[number]
	flow := wantedFlow(f.Code)
	if flow.Code != 0 {
		return impl.TypeResult{Code: 6}
	}
	shapes, depth := make([][]int64, len(f.Code)), 0
	come := make([]bool, len(f.Code))
	come[0] = true
	for _, number := range flow.Order {
		b := flow.Blocks[number]
		for at := b.First; at <= b.Last; at++ {
			behind, code := wantedChange(p, f, f.Code[at], shapes[at])
			if code != 0 {
				return impl.TypeResult{Code: code, At: at}
			}
			depth = max(depth, len(shapes[at]), len(behind))
			if at < b.Last {
				shapes[at+1] = behind
				continue
			}
			for _, n := range b.Next {
				to := flow.Blocks[n].First
				if come[to] && !slices.Equal(shapes[to], behind) {
					return impl.TypeResult{Code: 4, At: at}
				}
				come[to], shapes[to] = true, behind
			}
		}
	}
	return impl.TypeResult{Depth: int64(depth), Shapes: shapes}
}

// placesBehind: where an instruction can go.
func placesBehind(i impl.Instr, at int) []int {
	switch i.Op {
	case impl.OpReturn:
		return nil
	case impl.OpJump:
		return []int{int(i.C)}
	case impl.OpJumpZero, impl.OpGuard:
		return []int{at + 1, int(i.C)}
	}
	return []int{at + 1}
}

// wantedHold: do shapes hold, as the document tells it?
func wantedHold(p impl.Program, number int64, shapes [][]int64) bool {
	if wantedTypes(p, number).Code == 6 {
		return false
	}
	f := p.Funcs[number]
	if len(shapes) != len(f.Code) || len(shapes[0]) != 0 {
		return false
	}
	for at, i := range f.Code {
		for _, n := range shapes[at] {
			if n < 1 || n > 3 {
				return false
			}
		}
		behind, code := wantedChange(p, f, i, shapes[at])
		if code != 0 || len(shapes[at]) > 64 {
			return false
		}
		for _, to := range placesBehind(i, at) {
			if to == len(f.Code) || !slices.Equal(shapes[to], behind) {
				return false
			}
		}
	}
	return true
}

// likelyShapes walks instruction by instruction, and does not care for codes: each has the shape with which it is first come to.
func likelyShapes(p impl.Program, f impl.Func) [][]int64 {
	shapes, seen := make([][]int64, len(f.Code)), make([]bool, len(f.Code))
	open := []int{0}
	seen[0] = true
	for len(open) > 0 {
		at := open[0]
		open = open[1:]
		i := f.Code[at]
		left := max(len(shapes[at])-len(wantedTakes(p, f, i)), 0)
		behind := append([]int64{}, shapes[at][:left]...)
		for _, given := range typesGiven(p, f, i) {
			if given == 0 {
				given = append(append([]int64{}, shapes[at][left:]...), 1)[0]
			}
			behind = append(behind, given)
		}
		for _, to := range placesBehind(i, at) {
			if to < len(f.Code) && !seen[to] {
				seen[to] = true
				shapes[to] = behind
				open = append(open, to)
			}
		}
	}
	return shapes
}

func typesText(r impl.TypeResult) string {
	return fmt.Sprintf("code %d at %d, depth %d, shapes %v", r.Code, r.At, r.Depth, r.Shapes)
}

// checkTypes holds the types of a function, and whether shapes hold, against the model, and tells the types.
func checkTypes(t *testing.T, what string, p impl.Program, f int64) impl.TypeResult {
	t.Helper()
	got, want := impl.TypesOf(p, f), wantedTypes(p, f)
	if !sameAnswers(got, want) {
		t.Fatalf("%s: %s, not %s", what, typesText(got), typesText(want))
	}
	if got.Code != 0 && !sameAnswers(got, impl.TypeResult{Code: got.Code, At: got.At}) {
		t.Fatalf("%s: a code and more: %s", what, typesText(got))
	}
	if got.Code == 6 && got.At != 0 {
		t.Fatalf("%s: code 6 at %d", what, got.At)
	}
	if impl.ShapesHold(p, f, got.Shapes) != (got.Code == 0) {
		t.Fatalf("%s: the shapes hold or not, otherwise than told by %s", what, typesText(got))
	}
	if impl.ProgramFault(p) == 0 && within(f, len(p.Funcs)) {
		likely := likelyShapes(p, p.Funcs[f])
		if impl.ShapesHold(p, f, likely) != (got.Code == 0) {
			t.Fatalf("%s: %s, and otherwise held: %v", what, typesText(got), likely)
		}
		if got.Code == 0 && !sameAnswers(got.Shapes, likely) {
			t.Fatalf("%s: shapes %v, not %v", what, got.Shapes, likely)
		}
	}
	return got
}

// checkTypeCode: function 1 of a workshop with this result and code has the type code there.
func checkTypeCode(t *testing.T, what string, result int64, code []impl.Instr, want int64, at int64) impl.TypeResult {
	t.Helper()
	p := typed(result, code)
	r := checkTypes(t, what, p, 1)
	if r.Code != want || r.At != at {
		t.Errorf("%s: code %d at %d, not %d at %d", what, r.Code, r.At, want, at)
	}
	return r
}

func TestTypesAndDepthOfSomeCode(t *testing.T) {
	for _, x := range []struct {
		text   string
		result int64
		depth  int64
		shapes string
	}{
		{"r", 0, 0, "."},
		{"n r", 0, 0, ". ."},
		{"u x r", 0, 1, ". u ."},
		// The most stands behind the last instruction but the return alone.
		{"u r", 3, 1, ". u"},
		{"i r", 2, 1, ". i"},
		{"b r", 1, 1, ". b"},
		{"call:4 r", 1, 1, ". b"},
		{"i d u b call:2 eq:2 r", 1, 4, ". i ii iiu iiub ii b"},
		{"u d add:3 r", 3, 2, ". u uu u"},
		{"call:3 r", 0, 0, ". ."},
		{"i u call:1 r", 3, 2, ". i iu u"},
		{"b i u d conv:3:1 x x x x r", 0, 4, ". b bi biu biuu biub biu bi b ."},
		{"loadlocal:0 loadlocal:1 loadlocal:2 x x x r", 0, 3, ". i iu iub iu i ."},
		{"load:0:0 load:1:1 load:2:2 loadat:1:6:1 x x x r", 0, 3, ". b bi biu bib bi b ."},
		// Of two sides one is the deeper one.
		{"b z6 i x b j9 i i less:2 r", 1, 2, ". b . i . b . i ii b"},
		{"b z4 i j6 u conv:3:2 r", 2, 1, ". b . i . u i"},
		{"b z8 u d d x x j9 u r", 3, 3, ". b . u uu uuu uu u . u"},
		{"b z7 u u add:3 n j12 u u u x add:3 r", 3, 3, ". b . u uu u u . u uu uuu uu u"},
		// Around a loop the shape below stays.
		{"u storelocal:3 i guard:3:6 n j3 r", 2, 1, ". u . i i i i"},
		{"j2 r j1", 0, 0, ". . ."},
		{"n j0", 3, 0, ". ."},
	} {
		r := checkTypeCode(t, x.text, x.result, worded(x.text), 0, 0)
		if r.Depth != x.depth {
			t.Errorf("of %s: depth %d, not %d", x.text, r.Depth, x.depth)
		}
		if got := shapesText(r.Shapes); got != x.shapes {
			t.Errorf("of %s: %s, not %s", x.text, got, x.shapes)
		}
	}
}

// shapesText: a word for each shape, of the letters b i u, or a point.
func shapesText(shapes [][]int64) string {
	var words []string
	for _, shape := range shapes {
		word := ""
		for _, n := range shape {
			word += " biu"[n : n+1]
		}
		if word == "" {
			word = "."
		}
		words = append(words, word)
	}
	return strings.Join(words, " ")
}

func TestTypeCodes(t *testing.T) {
	for _, x := range []struct {
		text   string
		result int64
		code   int64
		at     int64
	}{
		// 1, in block 0: first, in the middle, last; and in later blocks.
		{"x r", 0, 1, 0},
		{"z1 r", 0, 1, 0},
		{"n x n r", 0, 1, 1},
		{"u add:3 n r", 0, 1, 1},
		{"n z2 r", 0, 1, 1},
		{"n x b z2 r", 0, 1, 1},
		{"j1 x r", 0, 1, 1},
		{"j1 z2 r", 0, 1, 1},
		{"j1 n neg r", 0, 1, 2},
		{"j1 n n z4 r", 0, 1, 3},
		{"u j2 add:3 x r", 0, 1, 2},
		// 2
		{"guard:0:1 r", 0, 2, 0},
		{"guard:2:1 r", 0, 2, 0},
		{"n guard:4:2 r", 0, 2, 1},
		{"b neg x r", 0, 2, 1},
		{"u z2 r", 0, 2, 1},
		{"b u add:3 b z3 x r", 0, 2, 2},
		{"j1 guard:0:2 r", 0, 2, 1},
		{"b j2 neg x r", 0, 2, 2},
		{"b j2 n neg x r", 0, 2, 3},
		{"i j2 z3 r", 0, 2, 2},
		{"i j2 n n z5 r", 0, 2, 4},
		{"i u b call:2 storelocal:1 r", 0, 2, 4},
		// 4: at the last instruction of the block that is left.
		{"b z0 r", 0, 0, 0},
		{"u b z0 x r", 0, 4, 2},
		{"u j0", 0, 4, 1},
		{"b z3 u r", 0, 4, 2},
		{"b z4 u j4 r", 0, 4, 3},
		{"b z3 j4 u r", 0, 4, 2},
		{"b z5 u n j6 i x r", 0, 4, 4},
		{"u storelocal:3 guard:3:5 u j2 r", 0, 4, 4},
		{"u storelocal:3 u guard:3:6 x j3 x r", 0, 4, 5},
		{"u storelocal:3 u guard:3:7 x i j3 x r", 0, 4, 6},
		{"n b z1 r", 0, 0, 0},
		{"n u b z1 x r", 0, 4, 3},
		{"n d b z1 x r", 0, 1, 1},
		// 5
		{"u r", 0, 5, 1},
		{"r", 1, 5, 0},
		{"r", 3, 5, 0},
		{"b r", 2, 5, 1},
		{"u r", 2, 5, 1},
		{"i i r", 2, 5, 2},
		{"u i r", 2, 5, 2},
		{"i u r", 2, 5, 2},
		{"j1 r", 2, 5, 1},
		{"u j2 r", 0, 5, 2},
		{"u j2 n n r", 0, 5, 4},
		{"b z3 r u r", 0, 5, 4},
		{"b z3 r u r", 3, 5, 2},
	} {
		checkTypeCode(t, x.text, x.result, worded(x.text), x.code, x.at)
	}
}

// Where several codes could be told: the first one by blocks in their order, instructions in theirs, and what is named first.
func TestTypeCodesAtOnce(t *testing.T) {
	full := strings.Repeat("u ", impl.MaxStack)
	for _, x := range []struct {
		text   string
		result int64
		code   int64
		at     int64
	}{
		// At one instruction: too few ahead of a type.
		{"b add:3 r", 0, 1, 1},
		{"i storeat:1:2:3 r", 0, 1, 1},
		{"b b call:2 r", 0, 1, 2},
		{"u u call:2 x r", 0, 1, 2},
		{"b eq:2 z3 r", 0, 1, 1},
		// What it takes, ahead of the shapes of the next ones.
		{"i z3 u r", 0, 2, 1},
		{"u n z0 r", 0, 2, 2},
		{"guard:0:3 u n r", 0, 2, 0},
		{"u j2 z0 r", 0, 2, 2},
		{"u b z0 z1 r", 0, 4, 2},
		// A full stack, ahead of the shapes of the next ones; a type ahead of a full stack.
		{full + "b z67 u n x r", 0, 3, 64},
		{full + "j65 guard:0:66 u r", 0, 2, 65},
		{full + "b guard:0:66 r", 0, 3, 64},
		{full + "u r", 0, 3, 64},
		{full + "r", 3, 5, 64},
		// At several of one block.
		{"x neg r", 0, 1, 0},
		{"b neg x x r", 0, 2, 1},
		{"guard:0:1 x r", 0, 2, 0},
		{"b x x neg r", 0, 1, 2},
		{"u neg r", 3, 2, 1},
		{"u b add:3 x x r", 0, 2, 2},
		// At several blocks: the named side of a branch comes ahead of the other one.
		{"b z4 x j5 neg r", 0, 1, 4},
		{"b z4 guard:0:3 j6 x n r", 0, 1, 4},
		{"b z5 x n j6 guard:0:6 r", 0, 2, 5},
		{"b z5 n x j7 n u r", 0, 1, 3},
		{"b z5 n x j7 u n r", 0, 1, 3},
		{"b z4 u j5 u r", 0, 5, 5},
		{"b z5 u n j6 n r", 0, 4, 4},
		{"b z5 u n j6 x r", 0, 1, 5},
		{"j3 x r j1", 0, 1, 1},
		{"j4 x r x j1", 0, 6, 0},
		{"j3 n r u j1", 0, 5, 2},
		{"j3 neg r b j1", 0, 2, 1},
		// Around a loop: behind the loop comes ahead of what is in it.
		{"u storelocal:3 guard:3:5 x j2 x r", 0, 1, 5},
		{"u storelocal:3 guard:3:5 x j2 r", 0, 1, 3},
		{"u storelocal:3 guard:3:5 u j2 u r", 0, 5, 6},
		{"u storelocal:3 guard:3:6 u b j2 b neg r", 0, 2, 7},
		{"u storelocal:3 guard:3:5 u j2 guard:2:6 r", 0, 2, 5},
	} {
		checkTypeCode(t, x.text, x.result, worded(x.text), x.code, x.at)
	}
}

func TestTypeCodeOfNone(t *testing.T) {
	numbers := []int64{-1, 0, 1, 3, 4, 5, 255, 256, 1 << 32, 1<<32 + 1, -(1 << 32), math.MaxInt64, math.MinInt64, math.MinInt64 + 1}
	programs := append(oddPrograms(), goodPrograms()...)
	for _, c := range faultCases() {
		p := someProgram()
		c.change(&p)
		programs = append(programs, p)
		if got := impl.TypesOf(p, 0); c.want != 0 && !sameAnswers(got, impl.TypeResult{Code: 6}) {
			t.Errorf("%s: %s", c.name, typesText(got))
		}
	}
	for i, p := range programs {
		for _, f := range numbers {
			r := checkTypes(t, fmt.Sprint("program ", i, " function ", f), p, f)
			if !within(f, len(p.Funcs)) && r.Code != 6 {
				t.Error("program", i, "has a function", f)
			}
		}
	}
	p := caller([]int64{1}, nil, []int64{1})
	for f := int64(-2); f < 5; f++ {
		if r := checkTypes(t, "three functions", p, f); (r.Code == 6) != (f < 0 || f > 2) {
			t.Error("of three functions", f, typesText(r))
		}
	}
}

// Each code of the flow of the function itself; that of another one does not matter.
func TestTypeCodeOfFlows(t *testing.T) {
	for text, flow := range map[string]int64{
		"n":                   1,
		"n b z0":              1,
		"r n":                 1,
		"guard:3:0":           1,
		"u":                   1,
		"x":                   1,
		"r r":                 2,
		"j0 r":                2,
		"n j3 n r":            2,
		"u r x r":             2,
		"b z4 b z4 b z2 r":    3,
		"guard:3:2 n j1":      3,
		"guard:3:3 x n j1":    3,
		"u guard:3:3 n n j2":  3,
		"j0":                  0,
		"guard:3:0 r":         0,
		"b z3 r r":            0,
		"guard:3:1 guard:3:0": 1,
	} {
		code := worded(text)
		if f := impl.FlowOf(code); f.Code != flow {
			t.Fatalf("flow of %s: %d", text, f.Code)
		}
		p := typed(0, code)
		if r := checkTypes(t, text, p, 1); (r.Code == 6) != (flow != 0) {
			t.Errorf("of %s: %s", text, typesText(r))
		}
		if r := checkTypes(t, "beside "+text, p, 3); r.Code != 0 || len(r.Shapes) != 1 {
			t.Errorf("beside %s: %s", text, typesText(r))
		}
	}
	p := typed(0, worded("n j5"))
	if f := impl.FlowOf(p.Funcs[1].Code); f.Code != 4 {
		t.Fatal("flow", f.Code)
	}
	for f := range int64(5) {
		if r := checkTypes(t, "a place that there is not", p, f); r.Code != 6 {
			t.Error(f, typesText(r))
		}
	}
}

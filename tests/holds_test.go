package tests

import (
	"fmt"
	"math"
	"reflect"
	"slices"
	"testing"

	"loop.example/s02548/impl"
)

// holdCodes are codes of function 1 of a workshop with this result, of which some shapes hold.
func holdCodes() []typeText {
	return []typeText{
		{"r", 0},
		{"n r", 0},
		{"u r", 3},
		{"i d u b call:2 eq:2 r", 1},
		{"b i u d conv:3:1 x x x x r", 0},
		{"b z4 i j6 u conv:3:2 r", 2},
		{"b z8 u d d x x j9 u r", 3},
		{"u storelocal:3 i guard:3:6 n j3 r", 2},
		{"u storelocal:3 guard:3:11 u storelocal:1 guard:1:10 u x n j5 j2 r", 0},
		{"i n b z1 r", 2},
		{"u b z6 b z6 n x r", 0},
		{"n j0", 3},
		{"u u storeat:1:2:3 load:1:2 u loadat:0:2:1 less:3 r", 1},
		{"call:3 call:4 z0 r", 0},
		{"i u call:1 r", 3},
		{"guard:3:2 j0 r", 0},
	}
}

type typeText struct {
	text   string
	result int64
}

// otherShapes visits shapes that differ from these in one place: a type more, a type less, another type, or a number that is none.
func otherShapes(shapes [][]int64, visit func(what string, other [][]int64)) {
	change := func(what string, at int, shape []int64) {
		other := copyOf(shapes)
		other[at] = shape
		visit(fmt.Sprintf("%s at %d", what, at), other)
	}
	for at, shape := range shapes {
		for n := 0; n <= len(shape); n++ {
			for _, more := range append([]int64{1, 2, 3}, wrongTypes()...) {
				change("a type more", at, slices.Insert(slices.Clone(shape), n, more))
			}
		}
		for n := range shape {
			change("a type less", at, slices.Delete(slices.Clone(shape), n, n+1))
			for _, other := range append([]int64{1, 2, 3}, wrongTypes()...) {
				if other != shape[n] {
					changed := slices.Clone(shape)
					changed[n] = other
					change("another type", at, changed)
				}
			}
		}
		change("a shape far too high", at, highest(1000, shape))
		change("a shape above the limit", at, highest(impl.MaxStack+1, shape))
		if len(shape) > 0 {
			change("no shape", at, nil)
		}
		visit("a shape too few", slices.Delete(copyOf(shapes), at, at+1))
		visit("a shape too many", slices.Insert(copyOf(shapes), at, shape))
	}
	visit("an empty shape more", append(copyOf(shapes), nil))
	visit("none", nil)
	visit("none but the first", copyOf(shapes)[:min(1, len(shapes)-1)])
	visit("twice as many", append(copyOf(shapes), shapes...))
}

func TestShapesFoundHoldAndNoOthers(t *testing.T) {
	seen := 0
	for _, x := range holdCodes() {
		p := typed(x.result, worded(x.text))
		r := checkTypes(t, x.text, p, 1)
		if r.Code != 0 {
			t.Fatal(x.text, typesText(r))
		}
		otherShapes(r.Shapes, func(what string, other [][]int64) {
			seen++
			if impl.ShapesHold(p, 1, other) || wantedHold(p, 1, other) {
				t.Errorf("of %s hold %s: %v", x.text, what, other)
			}
		})
		for _, f := range []int64{-1, 0, 2, 3, 4, 5, 1 << 32, 1<<32 + 1, math.MaxInt64, math.MinInt64, math.MinInt64 + 1} {
			if impl.ShapesHold(p, f, r.Shapes) != wantedHold(p, f, r.Shapes) {
				t.Error("they hold of function", f)
			}
		}
	}
	if seen < 3000 {
		t.Error("other shapes", seen)
	}
}

// One type below all, one changed everywhere, one taken away everywhere: each instruction could go on from its shape, but the first.
func TestShapesChangedEverywhere(t *testing.T) {
	for _, x := range holdCodes() {
		p := typed(x.result, worded(x.text))
		shapes := impl.TypesOf(p, 1).Shapes
		for n := int64(1); n <= 3; n++ {
			lifted, behind := copyOf(shapes), copyOf(shapes)
			for at := range shapes {
				lifted[at] = append([]int64{n}, shapes[at]...)
				if at > 0 {
					behind[at] = lifted[at]
				}
			}
			for _, other := range [][][]int64{lifted, behind} {
				if len(other) > 1 && impl.ShapesHold(p, 1, other) {
					t.Errorf("of %s hold %v", x.text, other)
				}
			}
		}
	}
	// An endless loop asks for nothing: only the first shape bars the others.
	p := typed(3, worded("n j0"))
	for _, x := range allLists(2) {
		if impl.ShapesHold(p, 1, [][]int64{x, x}) != (len(x) == 0) {
			t.Error("around and around with", x)
		}
	}
	p = typed(0, worded("n n j1"))
	for _, x := range allLists(2) {
		if impl.ShapesHold(p, 1, [][]int64{nil, x, x}) != (len(x) == 0) {
			t.Error("behind the first with", x)
		}
		if len(x) > 0 && impl.ShapesHold(p, 1, [][]int64{x, x, x}) {
			t.Error("from the first on with", x)
		}
	}
	for _, n := range wrongTypes() {
		if impl.ShapesHold(typed(0, worded("u d x x r")), 1, [][]int64{nil, {n}, {n, n}, {n}, nil}) {
			t.Error("a number that is no type:", n)
		}
	}
}

func TestShapesAboveTheLimitDoNotHold(t *testing.T) {
	for _, height := range []int{1, impl.MaxStack - 1, impl.MaxStack, impl.MaxStack + 1, impl.MaxStack + 2, 400} {
		types := manyTypes(height)
		p := typed(0, slices.Concat(pushes(types), drops(height), []impl.Instr{ret()}))
		shapes := make([][]int64, 2*height+1)
		for n := range height {
			shapes[n], shapes[2*height-n] = types[:n], types[:n]
		}
		shapes[height] = types
		if impl.ShapesHold(p, 1, shapes) != (height <= impl.MaxStack) {
			t.Error("shapes of", height)
		}
		// The most stands behind the last push of a block alone.
		calls := typed(0, slices.Concat(slices.Repeat([]impl.Instr{instr(impl.OpCall, 4)}, height), []impl.Instr{instr(impl.OpJump, 0, 0, int64(height)+1)}, drops(height), []impl.Instr{ret()}))
		shapes = make([][]int64, 2*height+2)
		for n := range height + 1 {
			shapes[n] = slices.Repeat([]int64{impl.TypeBool}, n)
			shapes[2*height+1-n] = shapes[n]
		}
		if impl.ShapesHold(calls, 1, shapes) != (height <= impl.MaxStack) {
			t.Error("calls of", height)
		}
	}
}

// Shapes that would hold, instruction by instruction, but for one thing.
func TestShapesHoldOfNoCodeWithACode(t *testing.T) {
	for _, x := range []struct {
		name   string
		result int64
		text   string
		shapes [][]int64
	}{
		{"off the end", 0, "n", [][]int64{nil}},
		{"off the end behind a push", 0, "u", [][]int64{nil}},
		{"off the end behind others", 0, "n u x", [][]int64{nil, nil, {3}}},
		{"off the end by a jumpzero", 0, "b z0", [][]int64{nil, {1}}},
		{"off the end by a guard", 0, "guard:3:0", [][]int64{nil}},
		{"off the end of what is never come to", 0, "r n", [][]int64{nil, nil}},
		{"never come to", 0, "r r", [][]int64{nil, nil}},
		{"never come to, with a shape", 3, "u r u r", [][]int64{nil, {3}, nil, {3}}},
		{"a loop with two ways in", 0, "guard:3:2 n j1", [][]int64{nil, nil, nil}},
		{"a guard of an int", 0, "guard:0:1 r", [][]int64{nil, nil}},
		{"a guard of a bool", 0, "guard:2:1 r", [][]int64{nil, nil}},
		{"a return with a type too many", 0, "u r", [][]int64{nil, {3}}},
		{"a return without a result", 3, "r", [][]int64{nil}},
		{"a return of another type", 3, "i r", [][]int64{nil, {2}}},
		{"a return of two", 2, "i i r", [][]int64{nil, {2}, {2, 2}}},
		{"too few", 0, "x r", [][]int64{nil, nil}},
		{"too few of two", 3, "u add:3 r", [][]int64{nil, {3}, {3}}},
		{"another type", 2, "u neg r", [][]int64{nil, {3}, {2}}},
		{"another type below", 3, "i u add:3 r", [][]int64{nil, {2}, {2, 3}, {3}}},
		{"another shape meets, as the first", 0, "b z3 u r", [][]int64{nil, {1}, nil, nil}},
		{"another shape meets, as the second", 0, "b z3 u r", [][]int64{nil, {1}, nil, {3}}},
		{"a back edge with another shape", 0, "u j0", [][]int64{nil, {3}}},
		{"a named place with another shape", 0, "n u b z1 x r", [][]int64{nil, nil, {3}, {3, 1}, {3}, nil}},
		{"a parameter of another type", 0, "i i b call:2 x r", [][]int64{nil, {2}, {2, 2}, {2, 2, 1}, {2}, nil}},
		{"a parameter missing", 0, "i u call:2 x r", [][]int64{nil, {2}, {2, 3}, {2}, nil}},
		{"a result of another type", 3, "call:4 r", [][]int64{nil, {3}}},
		{"a result where there is none", 3, "call:3 r", [][]int64{nil, {3}}},
		{"no result where there is one", 0, "call:4 r", [][]int64{nil, nil}},
	} {
		p := typed(x.result, worded(x.text))
		checkTypes(t, x.name, p, 1)
		if impl.ShapesHold(p, 1, x.shapes) || wantedHold(p, 1, x.shapes) {
			t.Error("they hold:", x.name)
		}
	}
}

func TestShapesHoldOfNoFaultyProgram(t *testing.T) {
	for _, c := range faultCases() {
		p := someProgram()
		shapes := impl.TypesOf(p, 0).Shapes
		if !impl.ShapesHold(p, 0, shapes) {
			t.Fatal("they do not hold", shapes)
		}
		c.change(&p)
		if got := impl.ShapesHold(p, 0, shapes); got != wantedHold(p, 0, shapes) || got && c.want != 0 {
			t.Error("they hold:", c.name)
		}
	}
}

// eachShapes visits all choices of one of these for each instruction.
func eachShapes(count int, from [][]int64, visit func([][]int64)) {
	shapes := make([][]int64, count)
	var choose func(at int)
	choose = func(at int) {
		if at == count {
			visit(shapes)
			return
		}
		for _, x := range from {
			shapes[at] = x
			choose(at + 1)
		}
	}
	choose(0)
}

// eachWords visits all code of so many of these words.
func eachWords(count int, words []string, visit func([]impl.Instr)) {
	code := make([]impl.Instr, count)
	var choose func(at int)
	choose = func(at int) {
		if at == count {
			visit(code)
			return
		}
		for _, word := range words {
			code[at] = worded(word)[0]
			choose(at + 1)
		}
	}
	choose(0)
}

// Of all short code and all low shapes of two types: those found hold, and no others.
func TestAllShapesOfAllShortCode(t *testing.T) {
	low := [][]int64{nil, {1}, {3}, {1, 1}, {1, 3}, {3, 1}, {3, 3}}
	held := map[int64]int{}
	p := typed(3, nil)
	for length := 1; length <= 3; length++ {
		words := []string{"b", "u", "x", "d", "n", "r", "eq:3", "j0", "z0", "guard:3:0", "j1", "z1", "guard:0:1", "j2", "z2"}
		if length < 3 {
			words = words[:8+3*length]
		}
		eachWords(length, words, func(code []impl.Instr) {
			for _, i := range code {
				if named(i) && !within(i.C, length) {
					return
				}
			}
			p.Funcs[1].Code = code
			r := checkTypes(t, textOf(code), p, 1)
			if r.Code == 6 {
				return
			}
			count := 0
			eachShapes(length, low, func(shapes [][]int64) {
				if impl.ShapesHold(p, 1, shapes) {
					count++
					if r.Code != 0 || !sameAnswers(shapes, r.Shapes) {
						t.Fatalf("of %s hold %v", textOf(code), shapes)
					}
				}
			})
			held[r.Code]++
			if r.Code == 0 && r.Depth <= 2 && count != 1 {
				t.Fatalf("of %s hold %d shapes", textOf(code), count)
			}
		})
	}
	if held[0] < 20 || held[1] < 100 || held[2] < 20 || held[4] < 20 || held[5] < 20 {
		t.Error("seldom:", held)
	}
}

// oddShapes are lists that may lead a reader of them astray.
func oddShapes() [][][]int64 {
	return [][][]int64{
		nil,
		{},
		{nil},
		{{}},
		{nil, nil, nil, nil, nil},
		{{math.MaxInt64}, {math.MinInt64}, {0}, {-1}, {4}},
		{nil, {math.MaxInt64}, {math.MinInt64, 3}, {0}, nil},
		{nil, make([]int64, 2000), nil, nil, nil},
		make([][]int64, impl.MaxCode),
		make([][]int64, 3000),
	}
}

func TestTypesArgumentsAndMemory(t *testing.T) {
	programs := append(oddPrograms()[:12], leastProgram(), someProgram(), fullProgram(), typed(0, worded("u b z0 x r")), typed(0, nil), typed(3, worded("r")))
	for _, x := range holdCodes() {
		programs = append(programs, typed(x.result, worded(x.text)))
	}
	wrong := typed(0, worded("n n n n r"))
	wrong.Funcs[1].Code[2] = impl.Instr{Op: -1, A: math.MinInt64, C: math.MaxInt64}
	programs = append(programs, wrong)
	for n, p := range programs {
		p = roomyOf(p)
		before := wholeOf(p)
		for _, f := range []int64{0, 1, 2, 3, -1, math.MaxInt64, math.MinInt64} {
			what := fmt.Sprint("program ", n, " function ", f)
			first := impl.TypesOf(p, f)
			checkOwnMemory(t, what, first, p)
			for range 20 {
				if !sameAnswers(impl.TypesOf(p, f), first) {
					t.Error("another answer:", what)
				}
			}
			for _, shapes := range append(oddShapes(), first.Shapes, append(copyOf(first.Shapes), nil)) {
				checkHoldArguments(t, what, p, f, shapes)
			}
		}
		if !reflect.DeepEqual(before, wholeOf(p)) {
			t.Error("changed: program", n)
		}
	}
}

func checkHoldArguments(t *testing.T, what string, p impl.Program, f int64, shapes [][]int64) {
	t.Helper()
	if len(shapes) < 1000 {
		shapes = roomyOf(shapes)
	}
	before := wholeOf(shapes)
	first := impl.ShapesHold(p, f, shapes)
	if first != wantedHold(p, f, shapes) {
		t.Errorf("%s: %t of %d shapes", what, first, len(shapes))
	}
	for range 3 {
		if impl.ShapesHold(p, f, shapes) != first {
			t.Error("another answer:", what)
		}
	}
	if !reflect.DeepEqual(before, wholeOf(shapes)) {
		t.Error("shapes were changed:", what)
	}
}

// What is done to an answer does not show in the next one, nor in the argument.
func TestTypesAnswerNewMemory(t *testing.T) {
	for _, x := range holdCodes() {
		p := typed(x.result, worded(x.text))
		before := copyOf(p)
		first := impl.TypesOf(p, 1)
		want := copyOf(first)
		for at := range first.Shapes {
			for n := range first.Shapes[at] {
				first.Shapes[at][n] = 77
			}
			first.Shapes[at] = append(first.Shapes[at], 78)
		}
		if !sameAnswers(impl.TypesOf(p, 1), want) || !sameAnswers(p, before) {
			t.Error("an answer is kept:", x.text)
		}
	}
}

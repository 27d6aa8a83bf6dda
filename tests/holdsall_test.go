package tests

import (
	"fmt"
	"slices"
	"testing"

	"loop.example/s02548/impl"
)

// shapesOf are those that TypesOf finds, of all functions.
func shapesOf(p impl.Program) [][][]int64 {
	shapes := make([][][]int64, len(p.Funcs))
	for f := range p.Funcs {
		shapes[f] = impl.TypesOf(p, int64(f)).Shapes
	}
	return shapes
}

// likelyOf are shapes of all functions that may be found by walking through them, whatever is wrong with them.
func likelyOf(p impl.Program) [][][]int64 {
	shapes := make([][][]int64, len(p.Funcs))
	for f := range p.Funcs {
		shapes[f] = likelyShapes(p, p.Funcs[f])
	}
	return shapes
}

// wantedDepth is that of a function with these shapes, where its callees have these depths.
func wantedDepth(p impl.Program, f int64, shapes [][]int64, depths []int64) int64 {
	most := 0
	for at, i := range p.Funcs[f].Code {
		behind, _ := wantedChange(p, p.Funcs[f], i, shapes[at])
		most = max(most, len(shapes[at]), len(behind))
		if i.Op == impl.OpCall {
			most = max(most, len(shapes[at])-len(p.Funcs[i.A].Params)+int(depths[i.A]))
		}
	}
	return int64(most)
}

// wantedHolds is the document's sentence, part by part.
func wantedHolds(p impl.Program, shapes [][][]int64) bool {
	if impl.ProgramFault(p) != 0 || len(wantedCalls(p)) == 0 || len(shapes) != len(p.Funcs) {
		return false
	}
	costs, depths := make([]int64, len(p.Funcs)), make([]int64, len(p.Funcs))
	for _, f := range wantedCalls(p) {
		flow := wantedFlow(p.Funcs[f].Code)
		if flow.Code != 0 || !wantedHold(p, f, shapes[f]) {
			return false
		}
		heads := map[int64]bool{}
		for _, l := range flow.Loops {
			heads[flow.Blocks[l.Head].First] = true
			if wantedLoopFault(p, f, l) != 0 {
				return false
			}
		}
		for _, c := range p.Certs {
			if c.Func == f && !heads[c.Head] {
				return false
			}
		}
		costs[f], depths[f] = wantedCost(p, f, costs), wantedDepth(p, f, shapes[f], depths)
		if costs[f] < 0 || depths[f] > 64 {
			return false
		}
	}
	return true
}

// checkHolds: shapes hold as the document tells; whether they do.
func checkHolds(t *testing.T, what string, p impl.Program, shapes [][][]int64) bool {
	t.Helper()
	got := impl.Holds(p, shapes)
	if got != wantedHolds(p, shapes) {
		t.Fatalf("%s: %t of %v", what, got, shapes)
	}
	return got
}

// checkFound: the shapes that are found hold just for what passes; so do likely ones.
func checkFound(t *testing.T, what string, p impl.Program) bool {
	t.Helper()
	passes := impl.Check(p).Code == 0
	if checkHolds(t, what, p, shapesOf(p)) != passes {
		t.Fatalf("%s: passes: %t, but the shapes that are found hold otherwise", what, passes)
	}
	if impl.ProgramFault(p) == 0 && checkHolds(t, what, p, likelyOf(p)) != passes {
		t.Fatalf("%s: passes: %t, but likely shapes hold otherwise", what, passes)
	}
	return passes
}

// passingTexts are programs that pass: with loops, calls, branches, values below calls, and functions that are never called.
func passingTexts() [][]string {
	return [][]string{
		{"r"},
		{"n r"},
		{"u d x x r"},
		{"r", "u x r"},
		{"load:0:0 z@a i j@b @a u conv:3:2 @b x r"},
		{"u storelocal:0 @h guard:0:@o n j@h @o r !h:0:6"},
		{"i u storelocal:0 @h guard:0:@o n j@h @o x r !h:0:6"},
		{"u i b call:1 x x r", "ib>u loadlocal:0 x u r"},
		{"call:1 x r", ">u u d add:3 r", "uu>b loadlocal:1 loadlocal:0 less:3 r"},
		{"u storelocal:0 @h guard:0:@o call:1 j@h @o r !h:0:6", "const:5 storelocal:3 @k guard:3:@p u x j@k @p r !k:3:2"},
		{some("u", 6) + "call:1 " + some("x", 6) + "r", tower(5) + "r"},
	}
}

func TestShapesFoundHoldForWhatPasses(t *testing.T) {
	for _, texts := range passingTexts() {
		p := several(texts...)
		if !checkFound(t, fmt.Sprint(texts), p) || !impl.Holds(p, shapesOf(p)) {
			t.Errorf("%q does not pass", texts)
		}
	}
	for n, p := range []impl.Program{leastProgram(), passing(), many()} {
		if !checkFound(t, fmt.Sprint("program ", n), p) {
			t.Error("it does not pass:", n)
		}
	}
	// By hand, of each kind of empty list.
	p := several("u d add:3 x r")
	for _, shapes := range [][][][]int64{{{nil, {3}, {3, 3}, {3}, nil}}, {{{}, {3}, {3, 3}, {3}, {}}}} {
		if !checkHolds(t, "by hand", p, shapes) {
			t.Error("they do not hold:", shapes)
		}
	}
	for n, p := range boundPrograms() {
		checkFound(t, fmt.Sprint("program ", n), p)
	}
	for _, x := range depthCases() {
		if checkFound(t, fmt.Sprint(x.texts), several(x.texts...)) != (x.depths != "") {
			t.Errorf("%q: passes or not, but not so", x.texts)
		}
	}
}

// Of what passes no other shapes hold: they differ in one type, one height, one length, or in the number of lists.
func TestNoOtherShapesHoldForWhatPasses(t *testing.T) {
	t.Parallel()
	seen := 0
	for _, texts := range passingTexts() {
		p := several(texts...)
		shapes := shapesOf(p)
		for f := range shapes {
			otherShapes(shapes[f], func(what string, other [][]int64) {
				all := slices.Clone(shapes)
				all[f] = other
				seen++
				// Short ones are also held against the model.
				if impl.Holds(p, all) || len(other) < 12 && wantedHolds(p, all) {
					t.Fatalf("%q: with %s of function %d they hold: %v", texts, what, f, all)
				}
			})
		}
		for what, other := range otherCounts(shapes) {
			seen++
			if checkHolds(t, what, p, other) {
				t.Errorf("%q: they hold: %s", texts, what)
			}
		}
	}
	if seen < 4000 {
		t.Error("other shapes", seen)
	}
}

// otherCounts are shapes of another number of functions.
func otherCounts(shapes [][][]int64) map[string][][][]int64 {
	last := len(shapes) - 1
	return map[string][][][]int64{
		"none":                   nil,
		"an empty list":          {},
		"one more, empty":        append(copyOf(shapes), nil),
		"one more, of no shapes": append(copyOf(shapes), [][]int64{}),
		"one more, of one shape": append(copyOf(shapes), [][]int64{nil}),
		"the last one twice":     append(copyOf(shapes), shapes[last]),
		"the first one twice":    append(copyOf(shapes), shapes[0]),
		"all twice":              append(copyOf(shapes), shapes...),
		"without the last one":   copyOf(shapes)[:last],
		"without the first one":  copyOf(shapes)[1:],
		"far too many":           append(copyOf(shapes), make([][][]int64, 5000)...),
		"all of them empty":      make([][][]int64, len(shapes)),
	}
}

// The lists of two functions changed for each other.
func TestShapesOfAnotherFunctionDoNotHold(t *testing.T) {
	p := several("r", "u x r", "i x r", "n n r", ">u n u r", "u x r")
	shapes := shapesOf(p)
	if !checkFound(t, "six functions", p) {
		t.Fatal("it does not pass")
	}
	for a := range shapes {
		for b := range shapes {
			other := slices.Clone(shapes)
			other[a], other[b] = shapes[b], shapes[a]
			if checkHolds(t, "changed for each other", p, other) != sameAnswers(shapes[a], shapes[b]) {
				t.Error("they hold or not:", a, b)
			}
			other = slices.Clone(shapes)
			other[a] = shapes[b]
			if checkHolds(t, "once more", p, other) != sameAnswers(shapes[a], shapes[b]) {
				t.Error("they hold or not:", a, b)
			}
		}
	}
}

// A function that is never called needs all that the others do.
func TestShapesOfWhatIsNeverCalled(t *testing.T) {
	p := several("n r", "u d x x r", ">i i r")
	shapes := shapesOf(p)
	if !checkFound(t, "never called", p) {
		t.Fatal("it does not pass")
	}
	for _, f := range []int{1, 2} {
		for what, other := range map[string][][]int64{
			"none":             nil,
			"empty ones":       make([][]int64, len(shapes[f])),
			"too few":          shapes[f][:1],
			"too many":         append(slices.Clone(shapes[f]), nil),
			"of another type":  {nil, {1}, {1, 1}, {1}, nil},
			"of function 0":    shapes[0],
			"of the other one": shapes[3-f],
		} {
			all := slices.Clone(shapes)
			all[f] = other
			if checkHolds(t, what, p, all) {
				t.Errorf("function %d: they hold: %s", f, what)
			}
		}
	}
	for code := 3; code <= 8; code++ {
		text, _, _ := faultyText([]int{code}, 2, 3)
		if checkFound(t, text, several("r", text, bigText, tower(40)+"r")) {
			t.Errorf("what is never called passes: %s", text)
		}
	}
	if checkFound(t, "calls itself", several("r", "call:1 r")) {
		t.Error("what is never called may call itself")
	}
}

// holdFault is a program whose shapes hold function by function, or would, but for one thing that bars it.
type holdFault struct {
	name   string
	p      impl.Program
	shapes [][][]int64
}

func changed(p impl.Program, change func(p *impl.Program)) impl.Program {
	p = copyOf(p)
	change(&p)
	return p
}

// programFaults are those of a program that passes but for a fault; its shapes are not touched by it.
func programFaults() []holdFault {
	good := passing()
	shapes := shapesOf(good)
	fault := func(name string, change func(p *impl.Program)) holdFault {
		return holdFault{name, changed(good, change), shapes}
	}
	return []holdFault{
		fault("four regions", func(p *impl.Program) { p.Regions = append(p.Regions, nil) }),
		fault("a cell of no type", func(p *impl.Program) { p.Regions[2] = append(p.Regions[2], 4) }),
		fault("a constant of no type", func(p *impl.Program) { p.Consts = append(p.Consts, impl.Const{}) }),
		fault("a bool of 2", func(p *impl.Program) { p.Consts[0].Word = 2 }),
		fault("a local of no type", func(p *impl.Program) { p.Funcs[0].Locals = append(p.Funcs[0].Locals, 0) }),
		fault("a parameter of function 0", func(p *impl.Program) { p.Funcs[0].Params, p.Funcs[0].Locals = []int64{3}, p.Funcs[0].Locals[1:] }),
		fault("an instruction with a number too many", func(p *impl.Program) { p.Funcs[1].Code[2].B = 1 }),
		fault("a return with a number", func(p *impl.Program) { p.Funcs[2].Code[len(p.Funcs[2].Code)-1].C = 1 }),
		fault("a certificate twice", func(p *impl.Program) { p.Certs = append(p.Certs, p.Certs[len(p.Certs)-1]) }),
		fault("certificates turned around", func(p *impl.Program) { slices.Reverse(p.Certs) }),
		fault("a certificate of no function", func(p *impl.Program) { p.Certs = append(p.Certs, impl.Cert{Func: 3}) }),
		fault("a certificate of a bool", func(p *impl.Program) { p.Certs[1].Counter = 4 }),
	}
}

// flowFaults are of code that has shapes, instruction by instruction, but a flow with a code.
func flowFaults() []holdFault {
	var list []holdFault
	for text, shapes := range map[string][][]int64{
		"n":                           {nil},
		"n u x":                       {nil, nil, {3}},
		"load:0:0 z@a r @a n":         {nil, {1}, nil, nil},
		"r r":                         {nil, nil},
		"n r u x r":                   {nil, nil, nil, {3}, nil},
		"guard:0:@a @b n @a b z@b r":  {nil, nil, nil, {1}, nil},
		"r @h n j@h":                  {nil, nil, nil},
		"guard:0:@a @b n @a n j@b":    {nil, nil, nil, nil},
		"b z@a @b u x @a b z@b n n r": {nil, {1}, nil, {3}, nil, {1}, nil, nil, nil},
		"j@a @b u x @a n r":           {nil, nil, {3}, nil, nil},
	} {
		list = append(list, holdFault{"a flow: " + text, several(text), [][][]int64{shapes}})
		list = append(list, holdFault{"a flow of what is called: " + text, several("call:1 r", text), [][][]int64{{nil, nil}, shapes}})
	}
	return list
}

func holdFaults() []holdFault {
	list := append(programFaults(), flowFaults()...)
	found := func(name string, p impl.Program) {
		list = append(list, holdFault{name, p, shapesOf(p)})
	}
	found("calls itself", several("call:0 r"))
	found("calls go round", several("call:1 r", "call:2 r", "n call:1 r"))
	found("calls go round where nobody comes", several("r", "call:2 r", "call:1 r"))
	found("a loop without a certificate", several("u storelocal:0 @h guard:0:@o n j@h @o r"))
	found("a loop without a guard", several("u storelocal:0 @h b z@o j@h @o r !h:0:6"))
	found("a loop that stays", several("u storelocal:0 @h guard:0:@a @a b z@o j@h @o r !h:0:6"))
	found("a loop that is written to", several("u storelocal:0 @h guard:0:@o u storelocal:0 j@h @o r !h:0:6"))
	found("a loop with another number", several("u storelocal:0 @h guard:0:@o n j@h @o r !h:0:5"))
	found("a loop from the start", several("@h guard:0:@o n j@h @o r !h:0:6"))
	found("the second loop", several("u storelocal:0 @h guard:0:@o n j@h @o u storelocal:0 @k guard:0:@p n j@k @p r !h:0:6"))
	found("a loop of what is called", several("call:1 r", "n @h b z@h r"))
	found("a certificate of no loop", several("n @h n r !h:0:6"))
	found("a certificate of no loop beside one", several("u storelocal:0 @h guard:0:@o @k n j@h @o r !h:0:6 !k:0:6"))
	found("a certificate of no loop of what is called", several("call:1 r", "@h r !h:0:0"))
	found("a cost", several("call:1 call:1 r", bigText))
	found("a cost of what is called", several("call:2 r", bigText, "call:1 call:1 r"))
	found("a cost of what is never called", several("r", bigText, "call:1 call:1 r"))
	found("a height", lifting(25, 0, 40))
	found("a height with parameters", lifting(25, 3, 40))
	found("a height by levels", several(some("u", 22)+"call:1 "+some("x", 22)+"r", some("u", 21)+"call:2 "+some("x", 21)+"r", tower(22)+"r"))
	found("a height of what is never called", several("r", some("u", 25)+"call:2 "+some("x", 25)+"r", tower(40)+"r"))
	return list
}

// Each fault alone: the shapes hold of each function for itself (where ShapesHold can tell), but not of the program.
func TestHoldsOfEachFault(t *testing.T) {
	seen := 0
	for _, x := range holdFaults() {
		if checkHolds(t, x.name, x.p, x.shapes) || checkFound(t, x.name, x.p) {
			t.Error("they hold:", x.name)
		}
		if impl.ProgramFault(x.p) != 0 {
			continue
		}
		for f := range x.shapes {
			hold := impl.ShapesHold(x.p, int64(f), x.shapes[f])
			if hold != (impl.FlowOf(x.p.Funcs[f].Code).Code == 0) {
				t.Errorf("%s: of function %d for itself: %t", x.name, f, hold)
			}
		}
		seen++
	}
	if seen < 30 {
		t.Error("faults", seen)
	}
	// Types that are wrong: no shapes hold, whatever is told.
	for _, x := range []struct {
		text   string
		shapes [][]int64
	}{
		{"x r", [][]int64{nil, nil}},
		{"u neg x r", [][]int64{nil, {3}, {2}, nil}},
		{"u neg x r", [][]int64{nil, {2}, {2}, nil}},
		{"u r", [][]int64{nil, {3}}},
		{"u r", [][]int64{nil, nil}},
		{"b z@a u @a r", [][]int64{nil, {1}, nil, nil}},
		{"b z@a u @a r", [][]int64{nil, {1}, nil, {3}}},
		{"guard:4:@a @a r", [][]int64{nil, nil}},
		{"n n r", [][]int64{{3}, {3}, nil}},
	} {
		for _, texts := range [][]string{{x.text}, {"r", x.text}, {"call:1 r", x.text}} {
			p := several(texts...)
			all := shapesOf(p)
			all[len(all)-1] = x.shapes
			if checkHolds(t, fmt.Sprint(texts), p, all) {
				t.Errorf("%q: they hold: %v", texts, all)
			}
		}
	}
}

// Several faults at once, in one function and in two.
func TestHoldsOfSeveralFaults(t *testing.T) {
	t.Parallel()
	for chosen := range 64 {
		var codes []int
		for code := 3; code <= 8; code++ {
			if chosen>>(code-3)&1 == 1 {
				codes = append(codes, code)
			}
		}
		text := "n r"
		if chosen > 0 {
			text, _, _ = faultyText(codes, 1, 2)
		}
		what := fmt.Sprint(codes)
		if checkFound(t, what, several(text, bigText, tower(40)+"r")) != (chosen == 0) {
			t.Error("passes or not:", what)
		}
		for code := 3; code <= 8; code++ {
			other, _, _ := faultyText([]int{code}, 1, 2)
			if checkFound(t, what, several(text, bigText, tower(40)+"r", other)) {
				t.Error("passes with another faulty function:", what, code)
			}
		}
		if checkFound(t, what, several(text, bigText, tower(40)+"r", "call:3 r")) {
			t.Error("passes with calls that go round:", what)
		}
		round := several(text, bigText, tower(40)+"r", "call:3 r")
		round.Consts[0].Word = 2
		if checkHolds(t, what, round, likelyOf(round)) || checkFound(t, what, round) {
			t.Error("passes with a fault:", what)
		}
	}
}

// At all heights around the most: the given shapes tell how high a function goes.
func TestHoldsAtHeights(t *testing.T) {
	for _, params := range []int{0, 1, 8} {
		for below := range impl.MaxStack + 1 - params {
			for height := impl.MaxStack - below - 2; height <= min(impl.MaxStack-below+2, impl.MaxStack); height++ {
				if height < 0 {
					continue
				}
				p := lifting(below, params, height)
				if impl.Holds(p, shapesOf(p)) != (below+height <= impl.MaxStack) {
					t.Fatalf("%d values and %d parameters below %d", below, params, height)
				}
			}
		}
	}
}

package tests

import (
	"fmt"
	"slices"
	"strings"
	"testing"

	"loop.example/s02548/impl"
)

// memory is a valid one of a program: words by chance, among them those at the edges.
func (d *dice) memory(p impl.Program) impl.Memory {
	words := func(region int) []uint32 {
		var list []uint32
		for _, t := range p.Regions[region] {
			word := d.value(t).Word
			// Of the inputs all words are good.
			if region == impl.RegionIn && d.next(2) == 0 {
				word = edgeWords()[d.next(len(edgeWords()))]
			}
			if t != impl.TypeBool && d.next(3) == 0 {
				word = uint32(d.next(8))
			}
			list = append(list, word)
		}
		return list
	}
	return impl.Memory{In: words(0), Out: words(1), Keep: words(2)}
}

// memories are all zeros, and so many by chance.
func (d *dice) memories(p impl.Program, count int) []impl.Memory {
	list := []impl.Memory{lean(p)}
	for range count {
		list = append(list, d.memory(p))
	}
	return list
}

const mostSteps = 1 << 20

// checkEnd runs a program that passes with this bound: it comes to its end, unless that may be too far away, and to no trap.
func checkEnd(t *testing.T, what string, p impl.Program, bound int64, m impl.Memory) impl.State {
	t.Helper()
	if !impl.ValidMemory(p, m) {
		t.Fatalf("%s: no valid memory %v", what, m)
	}
	s := impl.Run(p, m, bound)
	far := bound > mostSteps && s.Steps == mostSteps
	if s.Trap != 0 || !s.Done && !far || s.Cost > bound || s.Steps > bound || s.Steps > s.Cost {
		t.Fatalf("%s: the bound is %d, but with %v: %s", what, bound, m, brief(s))
	}
	return s
}

// checkPass: a program passes, with this bound, and each run costs just that.
func checkPass(t *testing.T, what string, p impl.Program, bound int64) {
	t.Helper()
	if r := checkLoad(t, what, p); r.Code != 0 || r.Bound != bound {
		t.Fatalf("%s: %s, not the bound %d", what, loadText(r), bound)
	}
	d := dice(79)
	for _, m := range d.memories(p, 4) {
		if s := checkEnd(t, what, p, bound, m); s.Cost != bound {
			t.Fatalf("%s: the bound is %d, but a run costs %d", what, bound, s.Cost)
		}
	}
}

// eachInstruction visits all instructions that may stand in function 0; where one names a place, that is 0.
func eachInstruction(p impl.Program, visit func(i impl.Instr)) {
	p = copyOf(p)
	for op := range int64(impl.MaxOp + 1) {
		for a := range int64(12) {
			for b := range int64(8) {
				for _, c := range []int64{0, 1, 3, 7} {
					i := instr(op, a, b, c)
					p.Funcs[0].Code = []impl.Instr{i, ret()}
					if impl.ProgramFault(p) == 0 && !(named(i) && c != 0) {
						visit(i)
					}
				}
			}
		}
	}
}

// Each instruction, with what it takes ahead of it, and what it gives dropped behind it: a run costs just the bound.
func TestEachInstructionPasses(t *testing.T) {
	p := several("r", "r", ">u u r", "biu>i loadlocal:1 r", "u> r")
	p.Regions = [][]int64{{1, 2, 3, 3, 1, 1, 1, 1}, {1, 1, 2, 2, 3, 3, 3, 3}, {2, 2, 2, 2, 1, 1, 3, 3}}
	p.Funcs[0].Locals = []int64{1, 2, 3, 3}
	costs := []int64{0, 2, 3, 3, 2}
	seen := map[int64]int{}
	eachInstruction(p, func(i impl.Instr) {
		if i.Op == impl.OpCall && i.A == 0 || i.Op == impl.OpGuard && p.Funcs[0].Locals[i.A] != impl.TypeUint {
			return
		}
		takes := wantedTakes(p, p.Funcs[0], i)
		for anything := int64(1); anything <= 3; anything++ {
			types := slices.Clone(takes)
			for n := range types {
				if types[n] == 0 {
					types[n] = anything
				}
			}
			code := pushes(types)
			if named(i) {
				i.C = int64(len(code)) + 1
			}
			drop := drops(len(typesGiven(p, p.Funcs[0], i)))
			cost := int64(len(code)) + impl.Info(i.Op).Cost + int64(len(drop)) + 2
			if i.Op == impl.OpCall {
				cost += costs[i.A]
			}
			code = append(code, i)
			if i.Op == impl.OpReturn {
				cost -= 2
			} else {
				code = append(append(code, drop...), ret())
			}
			q := copyOf(p)
			q.Funcs[0].Code = code
			checkPass(t, fmt.Sprint(i), q, cost)
			seen[i.Op]++
			if !slices.Contains(takes, 0) {
				break
			}
		}
	})
	for op := range int64(impl.MaxOp + 1) {
		if seen[op] == 0 {
			t.Error("never", impl.Info(op).Name)
		}
	}
}

// loopedText is a loop in so many levels, with these words in the innermost one, and what a run of it costs where these cost so much.
func loopedText(levels int, constant int, turns int64, inner string, cost int64) (string, int64) {
	text, certs := inner, ""
	for level := range levels {
		text = fmt.Sprintf("const:%d storelocal:%d @h%d guard:%d:@o%d %s j@h%d @o%d", constant, level, level, level, level, text, level, level)
		cost = 1 + 1 + turns*(2+cost+2) + 2
		certs += fmt.Sprintf(" !h%d:%d:%d", level, level, turns)
	}
	return text + " r" + certs, cost + 2
}

// A loop whose cost and turns can be counted has just that bound.
func TestCountedLoopsPass(t *testing.T) {
	for levels := range 5 {
		for constant, turns := range map[int]int64{2: 6, 3: 0, 4: 1, 5: 2, 6: 5, 7: 1000} {
			if levels > 1 && turns == 1000 {
				continue
			}
			for inner, cost := range map[string]int64{"": 0, "n": 1, "u u div:3 x": 11, "load:0:0 z@a u x j@b @a n n n n @b": 2 + 2 + 4, "u call:1 x": 1 + 4 + (2 + 7 + 2) + 1, "b call:2 x call:1": 1 + 4 + 3 + 1 + 15} {
				text, bound := loopedText(levels, constant, turns, inner, cost)
				p := several(text, "load:2:0 u add:3 store:2:0 const:4 storelocal:2 n r", "b>b loadlocal:0 r")
				checkPass(t, text, p, bound)
			}
		}
	}
	// The turns of the run are those of the certificate, no more and no fewer.
	for constant, turns := range map[int]int64{2: 6, 3: 0, 4: 1, 5: 2, 6: 5} {
		text, _ := loopedText(2, constant, turns, "n", 1)
		p := several(text)
		r := turnsIn(p, lean(p), 2000)
		if !r.end.Done || r.most[[2]int64{0, 2}] != turns || turns > 0 && (r.most[[2]int64{0, 5}] != turns || r.come[[2]int64{0, 5}] != turns) {
			t.Errorf("%d turns: %v and %v", turns, r.most, r.come)
		}
	}
}

func TestCallsToSeveralLevelsPass(t *testing.T) {
	for levels := 1; levels <= impl.MaxFuncs; levels++ {
		for _, left := range []int{0, 1, 2} {
			if left*levels > impl.MaxStack {
				continue
			}
			var texts []string
			for f := range levels - 1 {
				texts = append(texts, some("u", left)+fmt.Sprintf("call:%d ", f+1)+some("x", left)+"r")
			}
			texts = append(texts, tower(left)+"r")
			p := several(texts...)
			checkPass(t, fmt.Sprint(levels, " levels with ", left), p, int64(levels*(2*left+2)+(levels-1)*4))
			s := impl.Begin(p, lean(p))
			most := 0
			for !s.Done && s.Trap == 0 {
				most = max(most, len(s.Frames))
				s = impl.StepOnce(p, s)
			}
			if most != levels {
				t.Error("levels", most, "not", levels)
			}
		}
	}
	// Loops at each level: each function goes round twice, and calls the next one at each turn.
	var texts []string
	bound := int64(0)
	for f := range 6 {
		inner, cost := "n", int64(1)
		if f < 5 {
			inner, cost = fmt.Sprintf("u call:%d x", f+1), 0
		}
		text, _ := loopedText(1, 5, 2, inner, cost)
		texts = append(texts, text)
	}
	for f := 5; f >= 0; f-- {
		inner := int64(1)
		if f < 5 {
			inner = 1 + 4 + bound + 1
		}
		_, bound = loopedText(1, 5, 2, "", inner)
	}
	checkPass(t, "loops at six levels", several(texts...), bound)
}

// lifting is a program that calls function 1 with so many values below, these of them as parameters, which goes up to this height.
func lifting(below int, params int, height int) impl.Program {
	first := some("u", below+params) + "call:1 " + some("x", below) + "r"
	return several(first, strings.Repeat("u", params)+"> "+tower(height)+"r")
}

// checkFullRun: a program does not pass, as its function f goes too high, and comes to a full stack.
func checkFullRun(t *testing.T, what string, p impl.Program, f int64) {
	t.Helper()
	if r := checkLoad(t, what, p); !sameAnswers(r, refusal(8, f, 0)) {
		t.Errorf("%s: %s", what, loadText(r))
	}
	if s := impl.Run(p, lean(p), mostSteps); s.Trap != impl.TrapFull || len(s.Stack) != impl.MaxStack {
		t.Errorf("%s: %s", what, brief(s))
	}
}

func TestValuesBelowACall(t *testing.T) {
	t.Parallel()
	for below := 0; below <= impl.MaxStack; below++ {
		for height := 0; height <= impl.MaxStack; height++ {
			what := fmt.Sprint(below, " below ", height)
			if sum := below + height; sum > impl.MaxStack {
				if sum <= impl.MaxStack+3 || sum%16 == 0 {
					checkFullRun(t, what, lifting(below, 0, height), 0)
				}
			} else if sum >= impl.MaxStack-2 || sum%16 == 0 {
				checkPass(t, what, lifting(below, 0, height), int64(2*below+4+2*height+2+2))
			}
		}
	}
	// Parameters are taken off ahead: they count for the caller alone.
	for params := 0; params <= impl.MaxParams; params++ {
		for _, height := range []int{0, 1, 8, 20, 63, 64} {
			below := impl.MaxStack - max(height, params)
			what := fmt.Sprint(below, " and ", params, " parameters below ", height)
			checkPass(t, what, lifting(below, params, height), int64(2*below+params+4+2*height+2+2))
			if height > params {
				checkFullRun(t, what+" and one more", lifting(below+1, params, height), 0)
			}
			// One that is too high by itself is a matter of types.
			if height >= params && height < impl.MaxStack {
				checkFullRun(t, what+", which go one higher", lifting(below, params, height+1), 0)
			}
		}
	}
}

// Cases by hand, among them those at several levels: what passes comes to its end, what is too high comes to a full stack.
func TestHeightsThatPass(t *testing.T) {
	full := 0
	for _, x := range depthCases() {
		p := several(x.texts...)
		if x.depths == "" {
			checkFullRun(t, fmt.Sprint(x.texts), p, 0)
			full++
			continue
		}
		r := checkLoad(t, fmt.Sprint(x.texts), p)
		if r.Code != 0 {
			t.Errorf("%q: %s", x.texts, loadText(r))
		}
		checkEnd(t, fmt.Sprint(x.texts), p, r.Bound, lean(p))
	}
	if full < 10 {
		t.Error("too high:", full)
	}
	// Each of three levels has its share; one more at any of them is too much.
	for first := 0; first <= impl.MaxStack; first += 7 {
		for second := 0; first+second <= impl.MaxStack; second += 7 {
			third := impl.MaxStack - first - second
			levels := func(a, b, c int) impl.Program {
				return several(some("u", a)+"call:2 "+some("x", a)+"r", tower(c)+"r", some("u", b)+"call:1 "+some("x", b)+"r")
			}
			what := fmt.Sprint(first, " ", second, " ", third)
			checkPass(t, what, levels(first, second, third), 2*impl.MaxStack+4+4+2+2+2)
			// Without anything below it function 2 is too high by itself.
			high := int64(0)
			if first == 0 {
				high = 2
			}
			if third > 0 {
				checkFullRun(t, what+", more at first", levels(first+1, second, third), 0)
				checkFullRun(t, what+", more at second", levels(first, second+1, third), high)
			}
			if third < impl.MaxStack {
				checkFullRun(t, what+", more at third", levels(first, second, third+1), high)
			}
		}
	}
}

// Each part of a certificate taken away: function 1 has a loop (h) with another one (k) in it; both can be left by other ways than their guards'.
func TestLoopsThatPassNeedEachPart(t *testing.T) {
	const base = "n const:6 storelocal:0 @h guard:0:@o @a load:0:0 z@b n @b const:5 storelocal:1 @k guard:1:@l @c load:0:0 z@d @e n @d load:0:0 z@l j@k @l load:0:0 z@o @f j@h @o n r !h:0:5 !k:1:2"
	good := several("u call:1 x r", base)
	r := checkLoad(t, "with all parts", good)
	if r.Code != 0 {
		t.Fatal(loadText(r))
	}
	d := dice(83)
	for _, m := range d.memories(good, 20) {
		checkEnd(t, "with all parts", good, r.Bound, m)
	}
	seen := map[int64]int{}
	for _, x := range []struct {
		mark string
		part int64
		old  string
		new  string
	}{
		// No certificate, or one of another place.
		{"h", 1, "!h:0:5", ""}, {"k", 1, "!k:1:2", ""}, {"h", 1, "!h:0:5", "!a:0:5"}, {"k", 1, "!k:1:2", "!c:1:2"}, {"h", 1, "!h:0:5 !k:1:2", ""}, {"h", 1, "!h:0:5", "!o:0:5"},
		// No guard at the head, one of another local, or one of which the certificate does not tell.
		{"h", 2, "@h guard:0:@o", "@h n n"}, {"k", 2, "@k guard:1:@l", "@k n"}, {"h", 2, "@h guard:0:@o", "@h load:0:0 z@o"}, {"h", 2, "@h guard:0", "@h guard:2"}, {"k", 2, "@k guard:1", "@k guard:2"},
		{"h", 2, "!h:0:5", "!h:2:5"}, {"k", 2, "!k:1:2", "!k:0:2"}, {"h", 2, "@h guard:0:@o", "@h n guard:0:@o"}, {"k", 2, "@k guard:1:@l", "@k n guard:1:@l"},
		// A guard that does not lead out.
		{"h", 3, "guard:0:@o", "guard:0:@a"}, {"h", 3, "guard:0:@o", "guard:0:@h"}, {"h", 3, "guard:0:@o", "guard:0:@b"}, {"h", 3, "guard:0:@o", "guard:0:@l"}, {"h", 3, "guard:0:@o", "guard:0:@f"},
		{"k", 3, "guard:1:@l", "guard:1:@c"}, {"k", 3, "guard:1:@l", "guard:1:@k"}, {"k", 3, "guard:1:@l", "guard:1:@d"}, {"k", 3, "guard:1:@l", "guard:1:@e"},
		// Something in the loop writes to the counter.
		{"h", 4, "z@b n", "z@b u storelocal:0"}, {"h", 4, "z@b n", "z@b guard:0:@b"}, {"h", 4, "@e n", "@e u storelocal:0"}, {"h", 4, "@e n", "@e guard:0:@d"}, {"h", 4, "@f j@h", "@f guard:0:@h j@h"},
		{"k", 4, "@e n", "@e u storelocal:1"}, {"k", 4, "@e n", "@e guard:1:@d"}, {"k", 4, "j@k", "guard:1:@k j@k"},
		// A way in that does not set it, or sets it to something else.
		{"h", 5, "n const:6 storelocal:0", "n"}, {"h", 5, "n const:6 storelocal:0", "n const:5 storelocal:0"}, {"h", 5, "n const:6 storelocal:0", "n const:6 storelocal:2"}, {"h", 5, "const:6 storelocal:0", "const:6 storelocal:0 n"},
		{"h", 5, "const:6 storelocal:0", "load:0:1 storelocal:0"}, {"h", 5, "const:6 storelocal:0", "load:0:0 z@h const:6 storelocal:0"}, {"h", 5, "n const:6 storelocal:0", ""}, {"h", 5, "!h:0:5", "!h:0:4"}, {"h", 5, "!h:0:5", "!h:0:6"},
		{"k", 5, "const:5 storelocal:1", ""}, {"k", 5, "const:5 storelocal:1", "const:4 storelocal:1"}, {"k", 5, "const:5 storelocal:1", "const:5 storelocal:1 n"}, {"k", 5, "const:5 storelocal:1", "const:5 storelocal:2"}, {"k", 5, "!k:1:2", "!k:1:3"}, {"k", 5, "!k:1:2", "!k:1:0"},
		{"k", 5, "z@b n @b const:5", "z@k n const:5"},
	} {
		text := strings.Replace(base, x.old, x.new, 1)
		if text == base {
			t.Fatalf("%q does not stand there", x.old)
		}
		p := several("u call:1 x r", text)
		at := placeOf(text, x.mark)
		r := checkLoad(t, x.old+" becomes "+x.new, p)
		if !sameAnswers(r, refusal(5, 1, at)) {
			t.Errorf("%q becomes %q: %s", x.old, x.new, loadText(r))
			continue
		}
		if fault := impl.LoopFault(p, 1, loopFrom(t, p, 1, at)); fault != x.part {
			t.Errorf("%q becomes %q: the part %d, not %d", x.old, x.new, fault, x.part)
		}
		if impl.Holds(p, shapesOf(p)) {
			t.Errorf("%q becomes %q: it holds", x.old, x.new)
		}
		seen[x.part]++
	}
	for part := int64(1); part <= 5; part++ {
		if seen[part] < 5 {
			t.Error("seldom:", part, seen)
		}
	}
}

// placeOf is where a mark of a text of several stands.
func placeOf(text string, mark string) int64 {
	var words []string
	for _, word := range strings.Fields(text) {
		if !strings.HasPrefix(word, "!") && !strings.Contains(word, ">") {
			words = append(words, word)
		}
	}
	_, places := marked(strings.Join(words, " "))
	return places[mark]
}

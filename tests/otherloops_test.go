package tests

import (
	"fmt"
	"math"
	"slices"
	"testing"

	"loop.example/s02548/impl"
)

// farNumbers are none that a function, a block or a list of costs has; some look like one in fewer bits.
func farNumbers() []int64 {
	return []int64{-1, -2, 255, 256, 1024, 1 << 31, 1 << 32, 1<<32 + 1, -(1 << 32), math.MaxInt64, math.MinInt64, math.MinInt64 + 1}
}

func TestLoopsOfFaultyPrograms(t *testing.T) {
	l := loopFrom(t, someProgram(), 0, 2)
	seen := 0
	for _, c := range faultCases() {
		p := someProgram()
		c.change(&p)
		want := wantedLoopFault(p, 0, l)
		if c.want != 0 {
			seen++
			want = 7
		}
		if got := impl.LoopFault(p, 0, l); got != want {
			t.Errorf("%s: %d, not %d", c.name, got, want)
		}
	}
	for i, p := range oddPrograms() {
		if got := impl.LoopFault(p, 0, l); got != wantedLoopFault(p, 0, l) {
			t.Error("odd program", i, got)
		}
	}
	if got := impl.LoopFault(someProgram(), 0, l); got != 0 || seen < 200 {
		t.Error("without a fault:", got, "with one:", seen)
	}
}

func TestLoopsOfOtherFunctions(t *testing.T) {
	p := certified("u storelocal:3 @h guard:3:@o n j@h @o r", "h:3:6")
	l := loopFrom(t, p, 1, 2)
	for _, f := range append(farNumbers(), 0, 2, 3, 4, 5, 6) {
		if got := impl.LoopFault(p, f, l); got != 7 {
			t.Error("function", f, got)
		}
	}
	if got := impl.LoopFault(p, 1, l); got != 0 {
		t.Error("function 1", got)
	}
	// The same loop in several functions, with a certificate in one of them.
	p.Funcs[0], p.Funcs[3] = p.Funcs[1], p.Funcs[1]
	p.Funcs[0].Params, p.Funcs[0].Locals = nil, []int64{2, 3, 1, 3, 2, 3, 3, 3}
	for f, want := range []int64{1, 0, 7, 1, 7} {
		if got := impl.LoopFault(p, int64(f), l); got != want {
			t.Error("of several functions", f, got)
		}
	}
}

func TestLoopsOfFlowsWithACode(t *testing.T) {
	for _, x := range []struct {
		text string
		flow int64
	}{
		{"u storelocal:3 @h guard:3:@o n j@h @o r", 0},
		{"u storelocal:3 @h guard:3:@o n j@h @o n", 1},
		{"u storelocal:3 @h guard:3:@o n j@h @o r n", 1},
		{"u storelocal:3 @h guard:3:@o n j@h @o r r", 2},
		{"u storelocal:3 @h guard:3:@o n j@h @o r n j@h", 2},
		{"u guard:5:@e storelocal:3 @h guard:3:@o @e n j@h @o r", 3},
		{"u storelocal:3 @h guard:3:@o n j@h @o guard:5:@b @a n @b b z@a r", 3},
	} {
		p := certified(x.text, "h:3:6")
		_, places := marked(x.text)
		code := p.Funcs[1].Code
		if flow := impl.FlowOf(code); flow.Code != x.flow {
			t.Fatalf("flow of %s: %d", x.text, flow.Code)
		}
		// The loop as it would be found, if there were no code: its blocks in the order in which they stand.
		var l impl.Loop
		for b, block := range impl.BlocksOf(code) {
			if block.First >= places["h"] && block.First < places["o"] {
				l.Blocks = append(l.Blocks, int64(b))
			}
		}
		l.Head, l.Back = l.Blocks[0], l.Blocks[len(l.Blocks)-1:]
		want := int64(7)
		if x.flow == 0 {
			want = 0
		}
		if got := impl.LoopFault(p, 1, l); got != want {
			t.Errorf("of %s: %d, not %d", x.text, got, want)
		}
	}
}

// otherLists visits lists that differ from this one in a number, in how many they are, or in their order.
func otherLists(list []int64, visit func([]int64)) {
	for n := range list {
		for _, other := range append(farNumbers(), list[n]+1, list[n]-1, 0, 7) {
			if other != list[n] {
				changed := slices.Clone(list)
				changed[n] = other
				visit(changed)
			}
		}
		visit(slices.Delete(slices.Clone(list), n, n+1))
		visit(slices.Insert(slices.Clone(list), n, list[n]))
		if n > 0 {
			turned := slices.Clone(list)
			turned[n], turned[n-1] = turned[n-1], turned[n]
			visit(turned)
		}
	}
	for more := range int64(12) {
		visit(append(slices.Clone(list), more))
		if with := append(slices.Clone(list), more); !slices.Contains(list, more) {
			slices.Sort(with)
			visit(with)
		}
	}
	visit(nil)
	visit(append(slices.Clone(list), list...))
}

func TestLoopsThatAreNoneOfTheFunction(t *testing.T) {
	text := "u storelocal:3 @h guard:3:@o n b z@h u storelocal:5 @k guard:5:@l n b z@k n j@k @l j@h @o u storelocal:6 @m guard:6:@p n j@m @p r"
	p := certified(text, "h:3:6", "k:5:6", "m:6:6")
	loops := impl.FlowOf(p.Funcs[1].Code).Loops
	seen := 0
	check := func(l impl.Loop) {
		t.Helper()
		want := int64(7)
		if slices.ContainsFunc(loops, func(own impl.Loop) bool { return sameAnswers(own, l) }) {
			want = 0
		}
		seen++
		if got := impl.LoopFault(p, 1, l); got != want || wantedLoopFault(p, 1, l) != want {
			t.Errorf("%s: %d, not %d", loopsText([]impl.Loop{l}), got, want)
		}
	}
	if len(loops) != 3 || len(loops[0].Back) != 2 || len(loops[1].Back) != 2 {
		t.Fatal(loopsText(loops))
	}
	for _, l := range loops {
		check(l)
		for head := int64(-2); head < 16; head++ {
			check(impl.Loop{Head: head, Back: l.Back, Blocks: l.Blocks})
		}
		for _, head := range farNumbers() {
			check(impl.Loop{Head: head, Back: l.Back, Blocks: l.Blocks})
		}
		otherLists(l.Back, func(back []int64) { check(impl.Loop{Head: l.Head, Back: back, Blocks: l.Blocks}) })
		otherLists(l.Blocks, func(blocks []int64) { check(impl.Loop{Head: l.Head, Back: l.Back, Blocks: blocks}) })
		for _, other := range loops {
			check(impl.Loop{Head: l.Head, Back: l.Back, Blocks: other.Blocks})
			check(impl.Loop{Head: l.Head, Back: other.Back, Blocks: l.Blocks})
		}
	}
	check(impl.Loop{})
	if seen < 400 {
		t.Error("loops", seen)
	}
}

// turns are told for each loop by its function and the place of its head: the most for one time that it is come to, and how often it is.
type turns struct {
	most map[[2]int64]int64
	come map[[2]int64]int64
	end  impl.State
}

// turning is where a frame is: the place ahead, and the turns of each loop since it was come to.
type turning struct {
	from  int64
	turns map[int64]int64
}

// turnsIn runs a program step by step.
func turnsIn(p impl.Program, m impl.Memory, limit int) turns {
	r := turns{most: map[[2]int64]int64{}, come: map[[2]int64]int64{}, end: impl.Begin(p, m)}
	flows := make([]impl.Flow, len(p.Funcs))
	for f := range p.Funcs {
		flows[f] = impl.FlowOf(p.Funcs[f].Code)
	}
	var frames []turning
	for range limit {
		if r.end.Trap != 0 || r.end.Done {
			break
		}
		depth := len(r.end.Frames)
		top := r.end.Frames[depth-1]
		for len(frames) < depth {
			frames = append(frames, turning{-1, map[int64]int64{}})
		}
		frames = frames[:depth]
		frame := &frames[depth-1]
		flow := flows[top.Func]
		for _, l := range flow.Loops {
			head := flow.Blocks[l.Head].First
			if top.At != head {
				continue
			}
			place := [2]int64{top.Func, head}
			if frame.from >= 0 && slices.ContainsFunc(l.Blocks, func(b int64) bool { return flow.Blocks[b].First <= frame.from && frame.from <= flow.Blocks[b].Last }) {
				frame.turns[head]++
			} else {
				frame.turns[head] = 0
				r.come[place]++
			}
			r.most[place] = max(r.most[place], frame.turns[head])
		}
		frame.from = top.At
		r.end = impl.StepOnce(p, r.end)
	}
	return r
}

// checkTurns: no loop without a fault is gone round more often than its certificate says.
func checkTurns(t *testing.T, what string, p impl.Program, r turns) {
	t.Helper()
	for place, most := range r.most {
		if impl.LoopFault(p, place[0], loopFrom(t, p, place[0], place[1])) != 0 {
			continue
		}
		for _, c := range p.Certs {
			if c.Func == place[0] && c.Head == place[1] && most > int64(c.Init) {
				t.Errorf("%s: the loop at %v is gone round %d times, not %d", what, place, most, c.Init)
			}
		}
	}
}

// firstRuns makes function 1 of a program what is run.
func firstRuns(p impl.Program) impl.Program {
	p = copyOf(p)
	f := p.Funcs[1]
	f.Params, f.Locals = nil, append(append([]int64{}, f.Params...), f.Locals...)
	p.Funcs[0] = f
	var certs []impl.Cert
	for _, c := range p.Certs {
		if c.Func == 1 {
			c.Func = 0
			certs = append(certs, c)
		}
	}
	p.Certs = certs
	return p
}

func TestTurnsOfSomeLoops(t *testing.T) {
	for _, x := range []struct {
		text  string
		certs []string
		most  string
		come  string
	}{
		{"u storelocal:3 @h guard:3:@o n j@h @o r", []string{"h:3:6"}, "map[h:6]", "map[h:1]"},
		{"const:3 storelocal:3 @h guard:3:@o n j@h @o r", []string{"h:3:0"}, "map[h:0]", "map[h:1]"},
		{"const:4 storelocal:3 @h guard:3:@o n j@h @o r", []string{"h:3:1"}, "map[h:1]", "map[h:1]"},
		{"const:9 storelocal:3 @h guard:3:@o j@h @o r", []string{"h:3:1000"}, "map[h:1000]", "map[h:1]"},
		{"u storelocal:1 @h guard:1:@o n j@h @o r", []string{"h:1:6"}, "map[h:6]", "map[h:1]"},
		{"u storelocal:3 @h guard:3:@o u storelocal:5 @k guard:5:@l n j@k @l j@h @o r", []string{"h:3:6", "k:5:6"}, "map[h:6 k:6]", "map[h:1 k:6]"},
		{"const:5 storelocal:3 @h guard:3:@o u storelocal:5 @k guard:5:@h const:6 storelocal:6 @m guard:6:@k n j@m @o r", []string{"h:3:2", "k:5:6", "m:6:5"}, "map[h:2 k:6 m:5]", "map[h:1 k:2 m:12]"},
		{"u storelocal:3 @h guard:3:@o n j@h @o const:6 storelocal:3 @k guard:3:@p n j@k @p r", []string{"h:3:6", "k:3:5"}, "map[h:6 k:5]", "map[h:1 k:1]"},
		// Left early, by another way than the guard's, and come to once more.
		{"u storelocal:3 @h guard:3:@o loadlocal:3 const:5 less:3 z@h @o r", []string{"h:3:6"}, "map[h:4]", "map[h:1]"},
		{"const:5 storelocal:5 @k guard:5:@p u storelocal:3 @h guard:3:@k loadlocal:3 const:5 less:3 z@h j@k @p r", []string{"k:5:2", "h:3:6"}, "map[h:4 k:2]", "map[h:2 k:1]"},
	} {
		p := firstRuns(certified(x.text, x.certs...))
		_, places := marked(x.text)
		r := turnsIn(p, impl.Memory{In: make([]uint32, 4), Out: make([]uint32, 8), Keep: make([]uint32, 4)}, 5000)
		if !r.end.Done {
			t.Errorf("of %s: %s", x.text, brief(r.end))
		}
		most, come := map[string]int64{}, map[string]int64{}
		for place := range r.most {
			for mark, at := range places {
				if at == place[1] {
					most[mark], come[mark] = r.most[place], r.come[place]
				}
			}
			if l := loopFrom(t, p, 0, place[1]); impl.LoopFault(p, 0, l) != 0 {
				t.Errorf("of %s: a fault of the loop at %d", x.text, place[1])
			}
		}
		if fmt.Sprint(most) != x.most || fmt.Sprint(come) != x.come {
			t.Errorf("of %s: turns %v and times %v, not %s and %s", x.text, most, come, x.most, x.come)
		}
		checkTurns(t, x.text, p, r)
	}
}

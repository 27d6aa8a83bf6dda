package tests

import (
	"fmt"
	"slices"
	"testing"

	"loop.example/s02548/impl"
)

// sights are what runs of programs that pass came by.
type sights struct {
	ops    map[int64]int
	frames int
	below  int
	runs   int
	turns  int
	levels int
	steps  int64
}

// follow steps through the first part of a run, and notes what it comes by.
func (s *sights) follow(p impl.Program, m impl.Memory) {
	at := impl.Begin(p, m)
	within := map[[2]int64]int{}
	for f := range p.Funcs {
		flow := impl.FlowOf(p.Funcs[f].Code)
		for _, l := range flow.Loops {
			for _, other := range flow.Loops {
				if slices.Contains(other.Blocks, l.Head) {
					within[[2]int64{int64(f), flow.Blocks[l.Head].First}]++
				}
			}
		}
	}
	for range 150 {
		if at.Done || at.Trap != 0 {
			return
		}
		top := at.Frames[len(at.Frames)-1]
		i := p.Funcs[top.Func].Code[top.At]
		s.ops[i.Op]++
		s.frames = max(s.frames, len(at.Frames))
		if top.Base > 0 {
			s.below++
		}
		if i.Op == impl.OpGuard {
			s.turns++
			s.levels = max(s.levels, within[[2]int64{top.Func, top.At}])
		}
		at = impl.StepOnce(p, at)
	}
}

func newSights() *sights { return &sights{ops: map[int64]int{}} }

func (s *sights) check(t *testing.T, runs int, times int) {
	t.Helper()
	for op := range int64(impl.MaxOp + 1) {
		if s.ops[op] < times {
			t.Error("seldom", impl.Info(op).Name, s.ops[op])
		}
	}
	if s.runs < runs || s.frames < 3 || s.below < 300 || s.turns < 1000 || s.levels < 3 || s.steps < 1000 {
		t.Errorf("runs %d, frames %d, values below a call %d, turns %d, levels of loops %d, steps %d", s.runs, s.frames, s.below, s.turns, s.levels, s.steps)
	}
}

// Programs by chance that pass, with many memories: no trap, and the end at a cost within the bound.
func TestManyProgramsThatPass(t *testing.T) {
	t.Parallel()
	d := dice(89)
	seen := newSights()
	differ := 0
	for round := range 400 {
		p := d.certifiedProgram(false)
		if longest(p) > 200 || len(p.Certs) > impl.MaxCerts {
			continue
		}
		r := impl.Check(p)
		if r.Code != 0 {
			t.Fatalf("round %d: %s", round, loadText(r))
		}
		if r.Bound > 20000 {
			continue
		}
		costs := map[int64]bool{}
		for n, m := range d.memories(p, 10) {
			s := checkEnd(t, fmt.Sprint("round ", round), p, r.Bound, m)
			seen.runs++
			seen.steps = max(seen.steps, s.Steps)
			costs[s.Cost] = true
			if n < 3 {
				seen.follow(p, m)
			}
		}
		if len(costs) > 1 {
			differ++
		}
	}
	seen.check(t, 1500, 20)
	if differ < 50 {
		t.Error("programs whose runs differ in cost:", differ)
	}
}

// Programs that were changed somewhere: those that still pass come to no trap; of those that don't, some do.
func TestManyChangedProgramsThatPass(t *testing.T) {
	t.Parallel()
	d := dice(97)
	seen := newSights()
	bad := map[int64]int{}
	for round := range 4000 {
		p := d.certifiedProgram(false)
		if longest(p) > 60 || len(p.Certs) > impl.MaxCerts {
			continue
		}
		for range 1 + d.next(3) {
			d.spoilBound(&p)
		}
		if impl.ProgramFault(p) != 0 {
			continue
		}
		r := impl.Check(p)
		for n, m := range d.memories(p, 3) {
			if r.Code != 0 {
				if s := impl.Run(p, m, 3000); s.Trap != 0 || !s.Done {
					bad[r.Sub]++
				}
				continue
			}
			if r.Bound > 100000 {
				continue
			}
			s := checkEnd(t, fmt.Sprint("round ", round), p, r.Bound, m)
			seen.runs++
			seen.steps = max(seen.steps, s.Steps)
			if n < 2 {
				seen.follow(p, m)
			}
		}
	}
	seen.check(t, 500, 1)
	for _, sub := range []int64{2, 3, 4, 5} {
		if bad[sub] < 10 {
			t.Error("seldom a bad run of what is refused by", sub, bad)
		}
	}
}

// The bound may be further away than a run can go: it still comes to no trap.
func TestLongRunsOfWhatPasses(t *testing.T) {
	t.Parallel()
	const init = (impl.MaxCost - 7) / 4
	p := several(fmt.Sprintf("n u storelocal:0 @h guard:0:@o j@h @o r !h:0:%d", init))
	p.Consts[2].Word = init
	r := checkLoad(t, "far away", p)
	if r.Bound != impl.MaxCost {
		t.Fatal(loadText(r))
	}
	if s := checkEnd(t, "far away", p, r.Bound, lean(p)); s.Done || s.Steps != mostSteps {
		t.Error(brief(s))
	}
	// Set to where it has few turns left, it comes to its end, at just the cost.
	s := impl.Run(p, lean(p), mostSteps)
	left := s.Frames[0].Locals[0].Word
	s.Frames[0].Locals[0].Word = 3
	s.Cost += 4 * int64(left-3)
	for range 20 {
		s = impl.StepOnce(p, s)
	}
	if !s.Done || s.Cost != r.Bound {
		t.Error("at its end:", brief(s), s.Cost)
	}
	text, bound := loopedText(3, 6, 5, "const:7 storelocal:3 @q guard:3:@p n j@q @p", 2+1000*5+2)
	q := several(text + " !q:3:1000")
	checkPass(t, "many steps", q, bound)
}

// All code of four of these words, with inputs of both kinds: what passes comes to no trap; without branches, what does not comes to the trap of its code.
func TestAllShortCodeThatPasses(t *testing.T) {
	t.Parallel()
	traps := map[int64]int64{1: impl.TrapFew, 2: impl.TrapType, 3: impl.TrapFull, 5: impl.TrapReturn}
	words := []string{"load:0:0", "u", "x", "d", "r", "not:1", "eq:3", "z1", "z2", "z3", "z4", "j3", "j4", "call:1", "call:2", "storelocal:4"}
	p := several("r", "b>u u r", ">b b r")
	passed, refused, trapped := 0, map[int64]int{}, map[int64]int{}
	for length := 1; length <= 4; length++ {
		eachWords(length, words, func(code []impl.Instr) {
			code = append(code, ret())
			straight := true
			for _, i := range code {
				if named(i) && i.C >= int64(len(code)) {
					return
				}
				straight = straight && !named(i)
			}
			p.Funcs[0].Code = code
			r := impl.Check(p)
			if r.Code != 0 {
				refused[r.Sub]++
				if types := impl.TypesOf(p, 0); r.Sub == 4 && straight {
					s := impl.Run(p, lean(p), 100)
					if s.Trap != traps[types.Code] || len(s.Frames) != 1 || s.Frames[0].At != r.At {
						t.Fatalf("of %s: %s, and %s", textOf(code), loadText(r), brief(s))
					}
					trapped[s.Trap]++
				}
				return
			}
			passed++
			for _, input := range []uint32{0, 1, 2} {
				m := lean(p)
				m.In[0] = input
				checkEnd(t, textOf(code), p, r.Bound, m)
			}
		})
	}
	if passed < 200 || refused[3] < 100 || refused[4] < 1000 || refused[5] < 20 || trapped[impl.TrapFew] < 100 || trapped[impl.TrapType] < 100 || trapped[impl.TrapReturn] < 100 {
		t.Error("passed", passed, "refused", refused, "trapped", trapped)
	}
}

// All code of four instructions behind the setting of a counter, with certificates of just its loops.
func TestAllShortLoopsThatPass(t *testing.T) {
	t.Parallel()
	passed, just, refused := 0, 0, map[int64]int{}
	eachLooped(func(code []impl.Instr) {
		flow := impl.FlowOf(code)
		if flow.Code != 0 || len(flow.Loops) == 0 {
			return
		}
		p := several("r")
		p.Funcs[0].Code = code
		for _, l := range flow.Loops {
			head := flow.Blocks[l.Head].First
			p.Certs = append(p.Certs, impl.Cert{Head: head, Counter: code[head].A & 3, Init: 6})
		}
		r := checkLoad(t, textOf(code), p)
		if r.Code != 0 {
			refused[r.Sub]++
			return
		}
		passed++
		if s := checkEnd(t, textOf(code), p, r.Bound, lean(p)); s.Cost == r.Bound {
			just++
		}
	})
	if passed < 20 || just < 10 || refused[5] < 100 {
		t.Error("passed", passed, "at just the bound", just, "refused", refused)
	}
}

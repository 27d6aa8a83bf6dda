package tests

import (
	"fmt"
	"slices"
	"testing"

	"loop.example/s02548/impl"
)

// checkFast: a scan of the fast machine leaves the memory that the checked one does, or none where it has none to leave; what it leaves.
func checkFast(t *testing.T, what string, p impl.Program, m impl.Memory) impl.Memory {
	t.Helper()
	r := impl.Check(p)
	if r.Code == 0 && r.Bound <= impl.MaxRun && impl.ValidMemory(p, m) {
		return checkSame(t, what, p, r.Bound, m)
	}
	got := impl.RunFast(p, m)
	if !sameAnswers(got, impl.Memory{}) {
		t.Fatalf("%s with %v: %v", what, m, got)
	}
	return got
}

// checkSame is of a program that passes with this bound, and a memory of it.
func checkSame(t *testing.T, what string, p impl.Program, bound int64, m impl.Memory) impl.Memory {
	t.Helper()
	s := checkEnd(t, what, p, bound, m)
	if !s.Done {
		t.Fatal(what, "has no end that the checked machine can come to")
	}
	got, want := impl.RunFast(p, m), impl.MemoryOf(s)
	if !slices.Equal(got.In, want.In) || !slices.Equal(got.Out, want.Out) || !slices.Equal(got.Keep, want.Keep) {
		t.Fatalf("%s with %v: %v, not %v", what, m, got, want)
	}
	return got
}

// computing loads two values of the types taken from the inputs, does this, and stores what comes out.
func computing(i impl.Instr, takes []int64, gives int64) impl.Program {
	p := impl.Program{Regions: [][]int64{takes, {gives}, nil}}
	var code []impl.Instr
	for n := range takes {
		code = append(code, instr(impl.OpLoad, 0, int64(n)))
	}
	code = append(code, i, instr(impl.OpStore, 1, 0), ret())
	p.Funcs = []impl.Func{{Code: code}}
	return p
}

// Each instruction that computes, with words at the ends of their ranges: against the checked machine, and against what it computes.
func TestFastComputes(t *testing.T) {
	t.Parallel()
	checkWords := func(i impl.Instr, takes []int64, gives int64, of func(x, y uint32) uint32) {
		p := computing(i, takes, gives)
		for _, x := range edgeWords() {
			for _, y := range edgeWords() {
				m := impl.Memory{In: []uint32{x, y}[:len(takes)], Out: []uint32{0}}
				for n, t := range takes {
					if t == impl.TypeBool {
						m.In[n] = min(m.In[n], 1)
					}
				}
				behind := checkFast(t, fmt.Sprint(i), p, m)
				if want := of(m.In[0], m.In[len(takes)-1]); behind.Out[0] != want {
					t.Fatalf("%v of %v: %d, not %d", i, m.In, behind.Out[0], want)
				}
				if len(takes) == 1 {
					break
				}
			}
		}
	}
	for op := int64(impl.OpAdd); op <= impl.OpLess; op++ {
		for a := int64(0); a <= 3; a++ {
			i := instr(op, a)
			p := impl.Program{Regions: [][]int64{nil, nil, nil}, Funcs: []impl.Func{{Code: []impl.Instr{i, ret()}}}}
			if impl.ProgramFault(p) != 0 {
				continue
			}
			of := a
			switch op {
			case impl.OpShl, impl.OpShr:
				of = impl.TypeUint
			case impl.OpNeg:
				of = impl.TypeInt
			}
			checkWords(i, wantedTakes(p, p.Funcs[0], i), wantedGives(p, p.Funcs[0], i)[0], func(x, y uint32) uint32 { return wanted(op, of, x, y) })
		}
	}
	for from := int64(1); from <= 3; from++ {
		for to := int64(1); to <= 3; to++ {
			if from != to {
				checkWords(instr(impl.OpConv, from, to), []int64{from}, to, func(x, y uint32) uint32 {
					if to == impl.TypeBool {
						return truth(x != 0)
					}
					return x
				})
			}
		}
	}
}

// By hand: what stands below counts as the first one.
func TestFastComputesBelowAndOnTop(t *testing.T) {
	for text, want := range map[string][]uint32{
		"const:7 const:2 sub:3 store:1:0":                 {994},
		"const:7 const:2 div:3 store:1:0":                 {166},
		"const:7 const:2 mod:3 store:1:0":                 {4},
		"const:2 const:5 shl store:1:0":                   {24},
		"const:7 const:5 shr store:1:0":                   {250},
		"const:2 const:7 less:3 conv:1:3 store:1:0":       {1},
		"const:7 const:2 less:3 conv:1:3 store:1:0":       {0},
		"i i neg less:2 conv:1:3 store:1:0":               {1},
		"i i neg div:2 conv:2:3 store:1:0":                {0xffffffff},
		"const:6 const:2 d store:1:1 store:1:2 store:1:3": {0, 6, 6, 5},
		"const:6 const:2 const:7 x store:1:0 store:1:1":   {6, 5},
		"const:6 storelocal:1 const:2 storelocal:2 loadlocal:1 loadlocal:2 loadlocal:0 store:1:0 store:1:1 store:1:2": {0, 6, 5},
		"const:5 const:6 storeat:1:0:3 const:4 loadat:1:1:1 store:1:0":                                                {5, 0, 5},
	} {
		p := several(text + " r")
		behind := checkFast(t, text, p, lean(p))
		for n, word := range want {
			if len(behind.Out) != 5 || behind.Out[n] != word {
				t.Errorf("%s: %v, not %v", text, behind.Out, want)
				break
			}
		}
	}
}

// cellsProgram: In has two uints; each region that may be written to has cells of uint to the number of 9 and more.
func cellsProgram(code string, counts ...int) impl.Program {
	p := several(code)
	p.Regions = [][]int64{{3, 3}, slices.Repeat([]int64{3}, counts[0]), slices.Repeat([]int64{3}, counts[1])}
	return p
}

func numbered(count int, from uint32) []uint32 {
	var words []uint32
	for n := range count {
		words = append(words, from+uint32(n))
	}
	return words
}

// Each cell is loaded and stored where it stands, and none beside it; indices go by their mask alone.
func TestFastCells(t *testing.T) {
	t.Parallel()
	for _, counts := range [][]int{{1, 1}, {9, 17}, {256, 256}, {256, 3}} {
		for region, count := range counts {
			region++
			for _, cell := range []int{0, 1, 2, count / 2, count - 2, count - 1} {
				if cell < 0 || cell >= count {
					continue
				}
				m := impl.Memory{In: []uint32{7, 8}, Out: numbered(counts[0], 1000), Keep: numbered(counts[1], 5000)}
				what := fmt.Sprintf("cell %d of region %d of %v", cell, region, counts)
				p := cellsProgram(fmt.Sprintf("load:0:1 store:%d:%d r", region, cell), counts...)
				want := copyOf(m)
				(*parts(&want)[region])[cell] = 8
				if got := checkFast(t, what, p, m); !sameAnswers(got, want) {
					t.Error(what, "stored:", got)
				}
				p = cellsProgram(fmt.Sprintf("load:%d:%d store:1:0 r", region, cell), counts...)
				want = copyOf(m)
				want.Out[0] = (*parts(&m)[region])[cell]
				if got := checkFast(t, what, p, m); !sameAnswers(got, want) {
					t.Error(what, "loaded:", got)
				}
			}
		}
	}
	words := append(edgeWords(), 4, 6, 8, 15, 16, 100, 127, 128, 255, 256, 257, 511)
	for _, mask := range []int{0, 1, 3, 7, 15, 127, 255} {
		for _, first := range []int{0, 1, 255 - mask} {
			if first+mask > 255 || first < 0 {
				continue
			}
			for _, word := range words {
				for region := 1; region <= 2; region++ {
					m := impl.Memory{In: []uint32{word, 77}, Out: numbered(256, 1000), Keep: numbered(256, 5000)}
					cell := first + int(word%uint32(mask+1))
					what := fmt.Sprintf("%d of %d:%d:%d", word, region, first, mask)
					want := copyOf(m)
					(*parts(&want)[region])[cell] = 77
					p := cellsProgram(fmt.Sprintf("load:0:0 load:0:1 storeat:%d:%d:%d r", region, first, mask), 256, 256)
					if got := impl.RunFast(p, m); !sameAnswers(got, want) {
						t.Error(what, "stored:", got)
					}
					want = copyOf(m)
					want.Keep[0] = (*parts(&m)[region])[cell]
					p = cellsProgram(fmt.Sprintf("load:0:0 loadat:%d:%d:%d store:2:0 r", region, first, mask), 256, 256)
					if got := impl.RunFast(p, m); !sameAnswers(got, want) {
						t.Error(what, "loaded:", got)
					}
				}
			}
		}
	}
	// Inputs by an index.
	p := several("load:2:0 loadat:0:0:7 store:2:1 r")
	p.Regions[0] = slices.Repeat([]int64{3}, 9)
	for index := range uint32(20) {
		m := impl.Memory{In: numbered(9, 40), Out: make([]uint32, 5), Keep: []uint32{index, 0}}
		if got := checkFast(t, "inputs", p, m); got.Keep[1] != 40+index%8 {
			t.Error("input", index, got.Keep)
		}
	}
}

// A word of an input of bool is a truth behind the scan too; outputs and what is kept stay as they are.
func TestFastBools(t *testing.T) {
	p := several("load:0:0 store:1:1 load:0:2 not:1 store:1:2 load:2:0 load:1:0 xor:1 store:2:0 load:0:0 z@a const:5 store:1:3 @a r")
	p.Regions = [][]int64{{1, 3, 1, 2, 1}, {1, 1, 1, 3}, {1, 3}}
	for _, x := range edgeWords() {
		for _, y := range edgeWords() {
			for bits := range uint32(4) {
				m := impl.Memory{In: []uint32{x, y, y, x, x}, Out: []uint32{bits & 1, 1, 0, 9}, Keep: []uint32{bits >> 1, y}}
				want := impl.Memory{In: []uint32{truth(x != 0), y, truth(y != 0), x, truth(x != 0)}, Out: []uint32{bits & 1, truth(x != 0), truth(y == 0), 9}, Keep: []uint32{bits&1 ^ bits>>1, y}}
				if x != 0 {
					want.Out[3] = 2
				}
				if got := checkFast(t, "bools", p, m); !sameAnswers(got, want) {
					t.Fatalf("with %v: %v, not %v", m, got, want)
				}
			}
		}
	}
	// Nothing of it needs to be loaded.
	p.Funcs[0].Code = []impl.Instr{ret()}
	m := impl.Memory{In: []uint32{2, 2, 0, 2, 0xffffffff}, Out: []uint32{0, 1, 0, 5}, Keep: []uint32{1, 6}}
	want := copyOf(m)
	want.In = []uint32{1, 2, 0, 2, 1}
	if got := checkFast(t, "only a return", p, m); !sameAnswers(got, want) {
		t.Error(got)
	}
}

func TestFastJumpsAndGuards(t *testing.T) {
	for _, x := range []struct {
		in   []uint32
		out  uint32
		text string
	}{
		{[]uint32{0, 0}, 6, "load:0:0 z@a const:5 store:1:0 r @a u store:1:0 r"},
		{[]uint32{1, 0}, 2, "load:0:0 z@a const:5 store:1:0 r @a u store:1:0 r"},
		{[]uint32{77, 0}, 2, "load:0:0 z@a const:5 store:1:0 r @a u store:1:0 r"},
		{[]uint32{0, 0}, 6, "j@b @a u store:1:0 r @b j@a"},
		{[]uint32{0, 0}, 5, "load:0:0 z@c @a const:5 j@d @c const:6 @d store:1:0 r"},
		// A guard takes one off, or leads away.
		{[]uint32{0, 0}, 1000, "load:0:1 storelocal:2 guard:2:@a loadlocal:2 store:1:0 r @a const:7 store:1:0 r"},
		{[]uint32{0, 1}, 0, "load:0:1 storelocal:2 guard:2:@a loadlocal:2 store:1:0 r @a const:7 store:1:0 r"},
		{[]uint32{0, 2}, 1, "load:0:1 storelocal:2 guard:2:@a loadlocal:2 store:1:0 r @a const:7 store:1:0 r"},
		{[]uint32{0, 0xffffffff}, 0xfffffffe, "load:0:1 storelocal:2 guard:2:@a loadlocal:2 store:1:0 r @a const:7 store:1:0 r"},
		{[]uint32{0, 2}, 0, "load:0:1 storelocal:2 guard:2:@a guard:2:@a guard:2:@a loadlocal:3 store:1:0 r @a loadlocal:2 store:1:0 r"},
		{[]uint32{0, 4}, 1, "load:0:1 storelocal:2 guard:2:@a guard:2:@a guard:2:@a loadlocal:2 store:1:0 r @a loadlocal:3 store:1:0 r"},
	} {
		p := several(x.text)
		m := lean(p)
		m.In, m.Out[0] = x.in, 99
		if got := checkFast(t, x.text, p, m); len(got.Out) != 5 || got.Out[0] != x.out {
			t.Errorf("%s with %v: %v, not %d", x.text, x.in, got.Out, x.out)
		}
	}
}

// Loops within loops: the innermost part counts its turns, and so does each level.
func TestFastLoops(t *testing.T) {
	for levels := range 5 {
		for constant, turns := range map[int]int64{2: 6, 3: 0, 4: 1, 5: 2, 6: 5, 7: 1000} {
			if levels > 1 && turns == 1000 {
				continue
			}
			text, bound := loopedText(levels, constant, turns, "load:2:0 const:4 add:3 store:2:0", 6)
			p := several(text)
			m := lean(p)
			m.Keep[0], m.Keep[1] = 10, 20
			if r := impl.Check(p); r.Bound != bound {
				t.Fatal(text, loadText(r))
			}
			count := uint32(10)
			for n, all := int64(0), power(turns, levels); n < all; n++ {
				count++
			}
			if got := checkFast(t, text, p, m); got.Keep[0] != count || got.Keep[1] != 20 {
				t.Errorf("%d levels of %d: %v, not %d", levels, turns, got.Keep, count)
			}
		}
	}
	// A loop that is left early, and one that is come to again.
	text := "const:6 storelocal:0 @h guard:0:@o const:5 storelocal:1 @k guard:1:@l load:2:0 const:4 add:3 d store:2:0 load:0:1 eq:3 z@k j@o @l load:2:1 const:4 add:3 store:2:1 j@h @o r !h:0:5 !k:1:2"
	for stop, want := range map[uint32][]uint32{0: {10, 5}, 1: {1, 0}, 2: {2, 0}, 3: {3, 1}, 7: {7, 3}, 10: {10, 4}, 11: {10, 5}} {
		p := several(text)
		m := lean(p)
		m.In[1] = stop
		if got := checkFast(t, text, p, m); !slices.Equal(got.Keep, want) {
			t.Errorf("left at %d: %v, not %v", stop, got.Keep, want)
		}
	}
}

func power(base int64, exponent int) int64 {
	product := int64(1)
	for range exponent {
		product *= base
	}
	return product
}

// Each part of a memory that is not valid, and all that is told of one that is.
func TestFastMemoriesThatAreNotValid(t *testing.T) {
	p := several("load:2:0 const:4 add:3 store:2:0 r")
	p.Regions = [][]int64{{1, 3}, {1, 3}, {3, 1}}
	good := impl.Memory{In: []uint32{9, 5}, Out: []uint32{1, 7}, Keep: []uint32{6, 0}}
	want := impl.Memory{In: []uint32{1, 5}, Out: []uint32{1, 7}, Keep: []uint32{7, 0}}
	if got := checkFast(t, "good", p, good); !sameAnswers(got, want) {
		t.Error("good:", got)
	}
	for region := range 3 {
		for what, change := range map[string]func(words []uint32) []uint32{
			"none":      func(words []uint32) []uint32 { return nil },
			"too short": func(words []uint32) []uint32 { return words[:1] },
			"too long":  func(words []uint32) []uint32 { return append(words, 0) },
			"far long":  func(words []uint32) []uint32 { return append(words, make([]uint32, 1000)...) },
		} {
			m := copyOf(good)
			*parts(&m)[region] = change(*parts(&m)[region])
			if got := checkFast(t, what, p, m); !sameAnswers(got, impl.Memory{}) {
				t.Errorf("%s in region %d: %v", what, region, got)
			}
		}
	}
	for _, word := range edgeWords() {
		for region, cell := range []int{0, 0, 1} {
			m := copyOf(good)
			(*parts(&m)[region])[cell] = word
			got := checkFast(t, "a bool", p, m)
			if bad := region > 0 && word > 1; bad != sameAnswers(got, impl.Memory{}) {
				t.Errorf("%d as a bool in region %d: %v", word, region, got)
			}
		}
	}
	for n, m := range []impl.Memory{{}, {In: good.In}, {In: good.Out, Out: good.Keep, Keep: nil}, {Out: good.Out, Keep: good.Keep}} {
		if got := checkFast(t, "odd", p, m); !sameAnswers(got, impl.Memory{}) {
			t.Error("memory", n, got)
		}
	}
}

// What does not pass is not run, whatever bars it.
func TestFastWithoutACheck(t *testing.T) {
	t.Parallel()
	list := refused()
	for sub := int64(1); sub <= 8; sub++ {
		ran := 0
		for n, p := range list[sub] {
			memories := []impl.Memory{{}, someMemory()}
			if len(p.Regions) == 3 {
				memories = append(memories, lean(p))
			}
			for _, m := range memories {
				if got := impl.RunFast(p, m); !sameAnswers(got, impl.Memory{}) {
					t.Errorf("program %d of %d: %v", n, sub, got)
				}
				if impl.ValidMemory(p, m) {
					ran++
				}
			}
		}
		if sub > 1 && ran == 0 || len(list[sub]) == 0 {
			t.Error("never", sub)
		}
	}
}

// dear is a program with just this bound (30 at least): a scan adds its turns to the first kept cell, and 1 to the second one.
func dear(bound int64) impl.Program {
	const rest = 1 + 1 + 2 + 6 + 2
	turns := (bound - rest) / 10
	text := some("n", int((bound-rest)%10)) + "u storelocal:0 @h guard:0:@o load:2:0 const:4 add:3 store:2:0 j@h @o load:2:1 const:4 add:3 store:2:1 r"
	p := several(text + fmt.Sprintf(" !h:0:%d", turns))
	p.Consts[2].Word = uint32(turns)
	return p
}

func dearTurns(bound int64) uint32 { return uint32((bound - 12) / 10) }

// At just MaxRun it runs, at one more it does not.
func TestFastAtTheMostOfARun(t *testing.T) {
	t.Parallel()
	for _, x := range []struct {
		bound int64
		runs  bool
	}{{30, true}, {1000, true}, {100000, true}, {impl.MaxRun - 1, true}, {impl.MaxRun, true}, {impl.MaxRun + 1, false}, {impl.MaxRun + 9, false}, {2 * impl.MaxRun, false}, {1<<32 - 1000, false}, {impl.MaxCost - 1, false}, {impl.MaxCost, false}} {
		p := dear(x.bound)
		if r := impl.Check(p); r.Code != 0 || r.Bound != x.bound {
			t.Fatal(x.bound, loadText(r))
		}
		m := lean(p)
		m.Keep = []uint32{5, 6}
		want := impl.Memory{}
		if x.runs {
			want = copyOf(m)
			want.Keep = []uint32{5 + dearTurns(x.bound), 7}
		}
		if got := impl.RunFast(p, m); !sameAnswers(got, want) {
			t.Errorf("a bound of %d: %v, not %v", x.bound, got, want)
		}
		if !impl.Flatten(p).Good {
			t.Error("not flat:", x.bound)
		}
	}
	// At the limit of costs it passes; one nop more does not.
	p := dear(impl.MaxCost)
	p.Funcs[0].Code = append([]impl.Instr{instr(impl.OpNop)}, p.Funcs[0].Code...)
	for n := range p.Funcs[0].Code {
		if named(p.Funcs[0].Code[n]) {
			p.Funcs[0].Code[n].C++
		}
	}
	p.Certs[0].Head++
	if r := checkLoad(t, "one more", p); !sameAnswers(r, refusal(7, 0, 0)) {
		t.Error("one more:", loadText(r))
	}
	if impl.Flatten(p).Good || !sameAnswers(impl.RunFast(p, lean(p)), impl.Memory{}) {
		t.Error("one more is run")
	}
	// One of just MaxRun whose end the checked machine comes to as well: it is made of what costs much.
	divides := "u " + some("load:0:1 div:3", 100) + "x load:2:0 load:0:1 add:3 store:2:0"
	turn := int64(2 + 1 + 100*10 + 1 + 7 + 2)
	turns := (int64(impl.MaxRun) - 6) / turn
	nops := int64(impl.MaxRun) - 6 - turns*turn
	for more, runs := range []bool{true, false} {
		text := "u storelocal:0 @h guard:0:@o " + divides + " j@h @o " + some("n", int(nops%900)+more)
		q := several(text + "r" + fmt.Sprintf(" !h:0:%d", turns))
		q.Consts[2].Word = uint32(turns)
		if nops >= 900 {
			t.Fatal("nops", nops)
		}
		r := impl.Check(q)
		if r.Bound != int64(impl.MaxRun+more) {
			t.Fatal(loadText(r))
		}
		m := lean(q)
		m.In[1] = 3
		if got := checkFast(t, "divides", q, m); runs != (len(got.Keep) == 2 && got.Keep[0] == 3*uint32(turns)) {
			t.Errorf("with %d more: %v", more, got)
		}
	}
}

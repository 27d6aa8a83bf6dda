package tests

import (
	"fmt"
	"math"
	"slices"
	"strings"
	"testing"

	"loop.example/s02548/impl"
)

// teller does what statements say, on variables alone.
type teller struct {
	helpers   [][]impl.Stmt
	variables []uint32
	turns     []int
	done      map[int64]int
}

func (k *teller) tell(list []impl.Stmt, level int) {
	for _, s := range list {
		k.done[s.Kind]++
		switch s.Kind {
		case impl.StAssign:
			k.variables[s.A] += k.variables[s.B]
		case impl.StIf:
			if k.variables[s.A] < k.variables[s.B] {
				k.tell(s.Body, level)
			} else {
				k.tell(s.Else, level)
			}
		case impl.StLoop:
			for range s.B {
				k.turns[level]++
				k.tell(s.Body, level+1)
			}
		case impl.StCall:
			k.tell(k.helpers[s.A], 0)
		}
	}
}

func toldBy(list []impl.Stmt, helpers [][]impl.Stmt, variables []uint32) *teller {
	k := &teller{helpers, slices.Clone(variables), make([]int, 8), map[int64]int{}}
	k.tell(list, 0)
	return k
}

// wantedPrice is what a list may cost where the helpers cost this; -1 if that, or what one turn of a loop costs, is too much.
func wantedPrice(list []impl.Stmt, helpers []int64) int64 {
	sum := int64(0)
	for _, s := range list {
		body, other, own := wantedPrice(s.Body, helpers), wantedPrice(s.Else, helpers), int64(7)
		switch s.Kind {
		case impl.StIf:
			own = 7 + max(body+2, other)
		case impl.StLoop:
			own = 2 + s.B*(2+body+2) + 2
		case impl.StCall:
			body, own = helpers[s.A], 4+helpers[s.A]
		}
		sum += own
		if body < 0 || other < 0 || body+4 > impl.MaxCost && s.Kind == impl.StLoop || sum > impl.MaxCost {
			return -1
		}
	}
	return sum
}

// wantedPrices are those of all functions, the list's first.
func wantedPrices(list []impl.Stmt, helpers [][]impl.Stmt) []int64 {
	prices := make([]int64, len(helpers))
	whole := func(list []impl.Stmt) int64 {
		price := wantedPrice(list, prices)
		if price < 0 || price+2 > impl.MaxCost {
			return -1
		}
		return price + 2
	}
	for n := len(helpers) - 1; n >= 0; n-- {
		prices[n] = whole(helpers[n])
	}
	return append([]int64{whole(list)}, prices...)
}

// checkFamily: what is compiled passes with the cost that its statements tell, or is too dear by them; what Check tells of it.
func checkFamily(t *testing.T, what string, list []impl.Stmt, helpers [][]impl.Stmt) (impl.Program, impl.LoadResult) {
	t.Helper()
	p := checkCompile(t, what, list, helpers)
	if len(p.Funcs) == 0 {
		t.Fatal(what, "is not compiled")
	}
	prices := wantedPrices(list, helpers)
	r := impl.Check(p)
	if slices.Contains(prices, -1) {
		if r.Code != 2 || r.Sub != 7 || r.At != 0 || prices[r.Func] != -1 {
			t.Fatalf("%s: %s, but the costs are %v", what, loadText(r), prices)
		}
		return p, r
	}
	if r.Code != 0 || r.Bound != prices[0] || !impl.SameProgram(r.Program, p) {
		t.Fatalf("%s: %s, but the costs are %v", what, loadText(r), prices)
	}
	if loaded := impl.Load(bytesOf(p)); loaded.Code != 0 || loaded.Bound != r.Bound || !impl.SameProgram(loaded.Program, p) {
		t.Fatalf("%s by bytes: %s", what, loadText(loaded))
	}
	return p, r
}

// checkSays: what is compiled passes, and does what the statements say.
func checkSays(t *testing.T, what string, list []impl.Stmt, helpers [][]impl.Stmt, variables []uint32) *teller {
	t.Helper()
	p, r := checkFamily(t, what, list, helpers)
	if r.Code != 0 || r.Bound > impl.MaxRun {
		t.Fatalf("%s does not run: %s", what, loadText(r))
	}
	want := toldBy(list, helpers, variables)
	checkLeaves(t, what, p, r.Bound, variables, want.variables)
	return want
}

// checkLeaves: both machines leave these variables; the checked one as far as it goes.
func checkLeaves(t *testing.T, what string, p impl.Program, bound int64, variables []uint32, want []uint32) {
	t.Helper()
	m := impl.Memory{Keep: slices.Clone(variables)}
	s := checkEnd(t, what, p, bound, m)
	if s.Done && !slices.Equal(impl.MemoryOf(s).Keep, want) {
		t.Fatalf("%s with %v: %v, not %v", what, variables, impl.MemoryOf(s).Keep, want)
	}
	fast := impl.RunFast(p, m)
	if !slices.Equal(fast.Keep, want) || len(fast.In)+len(fast.Out) != 0 {
		t.Fatalf("%s with %v, fast: %v, not %v", what, variables, fast, want)
	}
}

func (d *dice) variables() []uint32 {
	list := make([]uint32, 8)
	for n := range list {
		switch d.next(3) {
		case 0:
			list[n] = uint32(d.next(4))
		case 1:
			list[n] = edgeWords()[d.next(len(edgeWords()))]
		case 2:
			list[n] = uint32(d.next(1<<16))<<16 | uint32(d.next(1<<16))
		}
	}
	return list
}

// family is a drawn list of statements: loops of the turns that are given, in so many levels at the most, and calls of helpers from first to ahead of end.
type family struct {
	*dice
	turns []int64
	first int
	end   int
}

func (d family) list(count int, levels int) []impl.Stmt {
	var list []impl.Stmt
	for count > 0 {
		own := 1 + d.next(count)
		count -= own
		s := impl.Stmt{Kind: impl.StAssign, A: d.number(8), B: d.number(8)}
		switch kind := d.next(4); {
		case kind == 0 && d.end > d.first:
			s = impl.Stmt{Kind: impl.StCall, A: int64(d.first + d.next(d.end-d.first))}
		case kind < 2 && levels > 0:
			s = impl.Stmt{Kind: impl.StLoop, B: d.turns[d.next(len(d.turns))], Body: d.list(own-1, levels-1)}
		case kind == 2 || own > 1:
			half := d.next(own)
			s = impl.Stmt{Kind: impl.StIf, A: d.number(8), B: d.number(8), Body: d.list(half, levels), Else: d.list(own-1-half, levels)}
		}
		list = append(list, s)
	}
	return list
}

// drawn are a list and its helpers, without a fault.
func (d *dice) drawn(count int, turns []int64, helpers int) ([]impl.Stmt, [][]impl.Stmt) {
	list := family{d, turns, 0, helpers}.list(1+d.next(count), 8)
	var lists [][]impl.Stmt
	for n := range helpers {
		lists = append(lists, family{d, turns, n + 1, helpers}.list(d.next(count), 8))
	}
	return list, lists
}

// Each kind by itself, by hand.
func TestFamilyByHand(t *testing.T) {
	for _, x := range []struct {
		want  []uint32
		texts []string
	}{
		{[]uint32{1, 2, 3, 4, 5, 6, 7, math.MaxUint32}, []string{""}},
		{[]uint32{3, 2, 3, 4, 5, 6, 7, math.MaxUint32}, []string{"0+1"}},
		{[]uint32{1, 2, 3, 8, 5, 6, 7, math.MaxUint32}, []string{"3+3"}},
		{[]uint32{0, 2, 3, 4, 5, 6, 7, math.MaxUint32}, []string{"0+7"}},
		{[]uint32{1, 2, 3, 4, 5, 6, 7, 1}, []string{"7+1"}},
		{[]uint32{3, 5, 3, 4, 5, 6, 7, math.MaxUint32}, []string{"0+1 1+2"}},
		{[]uint32{6, 5, 3, 4, 5, 6, 7, math.MaxUint32}, []string{"1+2 0+1"}},
		{[]uint32{1, 2, 10, 4, 5, 6, 7, math.MaxUint32}, []string{"0<1[2+6|3+6]"}},
		{[]uint32{1, 2, 3, 11, 5, 6, 7, math.MaxUint32}, []string{"1<0[2+6|3+6]"}},
		{[]uint32{1, 2, 3, 11, 5, 6, 7, math.MaxUint32}, []string{"1<1[2+6|3+6]"}},
		{[]uint32{1, 2, 10, 4, 5, 6, 7, math.MaxUint32}, []string{"0<7[2+6|3+6]"}},
		{[]uint32{1, 2, 3, 11, 5, 6, 7, math.MaxUint32}, []string{"7<0[2+6|3+6]"}},
		{[]uint32{1, 2, 3, 4, 5, 6, 7, math.MaxUint32}, []string{"1<0[2+6]"}},
		{[]uint32{1, 2, 3, 4, 5, 6, 7, math.MaxUint32}, []string{"0<1[|2+6]"}},
		{[]uint32{1, 2, 3, 4, 5, 6, 7, math.MaxUint32}, []string{"0<1[] 1<0[]"}},
		{[]uint32{1, 2, 3, 4, 5, 6, 7, math.MaxUint32}, []string{"0*[0+1]"}},
		{[]uint32{3, 2, 3, 4, 5, 6, 7, math.MaxUint32}, []string{"1*[0+1]"}},
		{[]uint32{1 + 255*2, 2, 3, 4, 5, 6, 7, math.MaxUint32}, []string{"255*[0+1]"}},
		{[]uint32{1 << 20, 2, 3, 4, 5, 6, 7, math.MaxUint32}, []string{"20*[0+0]"}},
		{[]uint32{0, 2, 3, 4, 5, 6, 7, math.MaxUint32}, []string{"32*[0+0]"}},
		{[]uint32{1 + 15*2, 2, 3 + 3*7, 4, 5, 6, 7, math.MaxUint32}, []string{"3*[5*[0+1] 2+6]"}},
		{[]uint32{1 + 2*2, 2, 3, 4, 5, 6, 7, math.MaxUint32}, []string{"9*[0<3[0+1]]"}},
		{[]uint32{5, 2, 3, 4, 5, 6, 7, math.MaxUint32}, []string{"@0 @1 @0", "0+1", ""}},
		{[]uint32{1 + 15*2, 2, 3, 4, 5, 6, 7, math.MaxUint32}, []string{"3*[@0]", "5*[0+1]"}},
		{[]uint32{1 + 8*2, 2, 3, 4, 5, 6, 7, math.MaxUint32}, []string{"@0 @0", "@1 @1", "@2 @2", "0+1"}},
		{[]uint32{1 + 256*2, 2, 3, 4, 5, 6, 7, math.MaxUint32}, []string{"2*[@0]", "2*[@1]", "2*[@2]", "2*[@3]", "2*[@4]", "2*[@5]", "2*[@6]", "2*[@7]", "0+1"}},
	} {
		what := strings.Join(x.texts, "; ")
		list, helpers := listsOf(x.texts...)
		if got := checkSays(t, what, list, helpers, []uint32{1, 2, 3, 4, 5, 6, 7, math.MaxUint32}); !slices.Equal(got.variables, x.want) {
			t.Errorf("%s: %v, not %v", what, got.variables, x.want)
		}
	}
}

// counted is a nest of loops with these turns from outside in; ahead and behind what stands within, the variable 0 grows by the variable 1 on the level that is counted.
func counted(turns []int64, at int, between string) []impl.Stmt {
	text := ""
	for n := len(turns); n >= 0; n-- {
		if n == at {
			text = "0+1 " + text
		}
		if n > 0 {
			text = fmt.Sprintf(between, fmt.Sprintf("%d*[%s]", turns[n-1], text))
		}
	}
	return stmts(text)
}

// Loops in one to eight levels make all their turns, on each level.
func TestFamilyLoopsMakeAllTheirTurns(t *testing.T) {
	t.Parallel()
	for levels := 1; levels <= 8; levels++ {
		var nests [][]int64
		for _, some := range [][]int64{{1}, {2}, {1, 2, 3}, {3, 1, 2}, {4, 1}} {
			var turns []int64
			for n := range levels {
				turns = append(turns, some[n%len(some)])
			}
			nests = append(nests, turns)
			for n := range levels {
				if len(some) > 1 {
					break
				}
				for _, other := range []int64{0, 5, 255} {
					changed := slices.Clone(turns)
					changed[n] = other
					nests = append(nests, changed)
				}
			}
		}
		for _, turns := range nests {
			for at := 0; at <= levels; at++ {
				want := uint32(1)
				for _, n := range turns[:at] {
					want *= uint32(n)
				}
				between := []string{"%s", "2<1[3+3|%s]", "2+2 %s 3+3"}[at%3]
				what := fmt.Sprint(turns, " level ", at)
				got := checkSays(t, what, counted(turns, at, between), nil, []uint32{0, 1, 7, 5, 0, 0, 0, 0})
				if got.variables[0] != want {
					t.Fatalf("%s: %d, not %d", what, got.variables[0], want)
				}
			}
		}
	}
}

// Step by step: each loop is come to once for each turn of the one around it, and gone round as often as its certificate says.
func TestFamilyTurnsOfEachLoop(t *testing.T) {
	t.Parallel()
	for levels := 1; levels <= 8; levels++ {
		for _, some := range [][]int64{{2}, {1}, {3, 1}, {1, 4, 1}} {
			var nest []int64
			for n := range levels {
				nest = append(nest, some[n%len(some)])
			}
			p := impl.Compile(counted(nest, levels, "%s"), nil)
			r := turnsIn(p, impl.Memory{Keep: make([]uint32, 8)}, 10000)
			if !r.end.Done || r.end.Trap != 0 || len(p.Certs) != levels || len(r.most) != levels {
				t.Fatalf("%v: %s", nest, brief(r.end))
			}
			come := int64(1)
			for n, c := range p.Certs {
				place := [2]int64{0, c.Head}
				if c.Counter != int64(n) || r.come[place] != come || r.most[place] != nest[n] {
					t.Errorf("%v: the loop %+v is come to %d times, and gone round %d times", nest, c, r.come[place], r.most[place])
				}
				come *= nest[n]
			}
		}
	}
}

// Far more turns than the checked machine has steps for: the fast one makes them all.
func TestFamilyOfManyTurns(t *testing.T) {
	t.Parallel()
	for _, x := range []struct {
		want  uint32
		texts []string
	}{
		{255 * 255 * 5, []string{"5*[255*[255*[0+1]]]"}},
		{255 * 255 * 5, []string{"255*[5*[255*[0+1]]]"}},
		{255 * 255 * 4, []string{"2*[2*[@0]]", "255*[255*[0+1]]"}},
		{6 * 6 * 6 * 6 * 6 * 6, []string{"6*[6*[6*[6*[6*[6*[0+1]]]]]]"}},
		{1 << 16, []string{nestText(8, "@0"), nestText(8, "0+1")}},
		{255 * 255 * 3, []string{"1*[1*[1*[255*[1*[255*[1*[3*[0+1]]]]]]]]"}},
	} {
		what := strings.Join(x.texts, "; ")
		list, helpers := listsOf(x.texts...)
		if got := checkSays(t, what, list, helpers, []uint32{0, 1, 0, 0, 0, 0, 0, 0}); got.variables[0] != x.want {
			t.Errorf("%s: %d, not %d", what, got.variables[0], x.want)
		}
	}
}

// Many drawn lists with helpers: they pass at the cost that they tell, and run as they say.
func TestFamilyOfManyLists(t *testing.T) {
	t.Parallel()
	d := dice(223)
	ran, levels, kinds := 0, map[int]int{}, map[int64]int{}
	for round := range 1000 {
		what := fmt.Sprint("round ", round)
		list, helpers := d.drawn(20, []int64{0, 1, 1, 2, 2, 3, 4}, d.next(9))
		if loopsIn(list, helpers) > impl.MaxCerts {
			continue
		}
		p, r := checkFamily(t, what, list, helpers)
		if r.Code != 0 || r.Bound > 20000 {
			continue
		}
		for range 3 {
			variables := d.variables()
			k := toldBy(list, helpers, variables)
			checkLeaves(t, what, p, r.Bound, variables, k.variables)
			for level, turns := range k.turns {
				if turns > 0 {
					levels[level]++
				}
			}
			for kind, times := range k.done {
				kinds[kind] += times
			}
		}
		ran++
	}
	if ran < 600 || levels[3] < 20 || kinds[1] < 5000 || kinds[2] < 5000 || kinds[3] < 5000 || kinds[4] < 2000 {
		t.Error("ran", ran, "levels", levels, "kinds", kinds)
	}
}

// loopsIn: how many loops have the list and the helpers in all?
func loopsIn(list []impl.Stmt, helpers [][]impl.Stmt) int {
	count := 0
	for _, s := range list {
		if s.Kind == impl.StLoop {
			count++
		}
		count += loopsIn(s.Body, nil) + loopsIn(s.Else, nil)
	}
	for _, helper := range helpers {
		count += loopsIn(helper, nil)
	}
	return count
}

// Lists with deep loops, each around one or two others.
func TestFamilyOfManyDeepLists(t *testing.T) {
	t.Parallel()
	d := dice(227)
	depths := map[int]int{}
	for round := range 600 {
		levels := 1 + d.next(8)
		list := family{&d, []int64{1, 2}, 0, 1}.list(1+d.next(6), 0)
		for range levels {
			around := family{&d, []int64{1, 2}, 0, 1}
			list = append(append(around.list(d.next(3), 0), impl.Stmt{Kind: impl.StLoop, B: []int64{0, 1, 1, 1, 1, 2, 2, 2, 2, 2, 2, 3}[d.next(12)], Body: list}), around.list(d.next(3), 0)...)
			if d.next(8) == 0 {
				list = []impl.Stmt{{Kind: impl.StIf, A: d.number(8), B: d.number(8), Else: list}}
			}
		}
		if wantedStmtFault(list) != 0 {
			continue
		}
		k := checkSays(t, fmt.Sprint("round ", round), list, [][]impl.Stmt{stmts("0+1 3*[1+2]")}, d.variables())
		depth := 0
		for depth < 8 && k.turns[depth] > 0 {
			depth++
		}
		depths[depth]++
	}
	for depth := 1; depth <= 8; depth++ {
		if depths[depth] < 8 {
			t.Error("seldom", depth, "levels:", depths)
		}
	}
}

// Drawn lists that are dear: they pass, or cost too much, just as their statements tell.
func TestFamilyOfManyDearLists(t *testing.T) {
	t.Parallel()
	d := dice(229)
	passed, dear := 0, 0
	for round := range 700 {
		list, helpers := d.drawn(40, []int64{0, 1, 20, 100, 254, 255}, d.next(5))
		if loopsIn(list, helpers) > impl.MaxCerts {
			continue
		}
		if _, r := checkFamily(t, fmt.Sprint("round ", round), list, helpers); r.Code == 0 && r.Bound > impl.MaxRun {
			passed++
		} else if r.Code != 0 {
			dear++
		}
	}
	if passed < 100 || dear < 100 {
		t.Error("passed", passed, "too dear", dear)
	}
}

// The cost is just as much as it may be, or one more; and what is never run counts too.
func TestFamilyAtTheMostCost(t *testing.T) {
	nest := "64*[255*[255*[255*[]]]] 63*[255*[255*[]]] 190*[255*[]] 187*[] "
	for _, x := range []struct {
		bound int64
		texts []string
	}{
		{impl.MaxCost, []string{nest + "0*[] 0<1[]"}},
		{0, []string{nest + "0+0 0+0"}},
		{impl.MaxCost - 1, []string{nest + "0*[] 0*[] 0*[]"}},
		{0, []string{nest + "0*[] 0<1[] 0*[]"}},
		{2, []string{"", nest + "0*[] 0<1[]"}},
		{0, []string{"", nest + "0+0 0+0"}},
		{0, []string{"@0", nest + "0*[] 0<1[]"}},
		{impl.MaxCost, []string{nest + "0+1 @0", ""}},
		{0, []string{"0*[" + nest + "0+0 0+0]"}},
		{0, []string{"0*[" + nest + "0*[] 0<1[]]"}},
		{0, []string{"0*[@0]", nest + "0*[] 0<1[]"}},
		{0, []string{"0<1[|" + nest + "0+0 0+0]"}},
		{0, []string{"255*[255*[255*[255*[]]]]"}},
		{0, []string{nestText(8, "@0"), nestText(8, "@1"), nestText(8, "@2"), nestText(8, "@3"), nestText(8, "@4"), nestText(8, "")}},
	} {
		what := fmt.Sprintf("%q", x.texts)
		list, helpers := listsOf(x.texts...)
		_, r := checkFamily(t, what, list, helpers)
		if x.bound == 0 && (r.Code != 2 || r.Sub != 7) || x.bound != 0 && (r.Code != 0 || r.Bound != x.bound) {
			t.Errorf("%s: %s, not %d", what, loadText(r), x.bound)
		}
	}
}

// All of the greatest lists pass: sixty statements, eight levels, eight helpers that call each other.
func TestFamilyOfTheGreatest(t *testing.T) {
	d := dice(233)
	for name, count := range countings() {
		helpers := slices.Repeat([][]impl.Stmt{stmts("0+1")}, 8)
		checkSays(t, name, withFewTurns(count(60)), helpers, d.variables())
	}
	var helpers [][]impl.Stmt
	for n := range 7 {
		helpers = append(helpers, append(slices.Repeat(stmts("0<1[1+2]"), 29), impl.Stmt{Kind: impl.StCall, A: int64(n + 1)}))
	}
	helpers = append(helpers, slices.Repeat(stmts("2+1"), 60))
	checkSays(t, "a chain of calls", slices.Repeat(stmts("@0"), 60), helpers, d.variables())
	checkSays(t, "within loops", nestLoops(8, stmts("3<4[5+6 @7|6+5]")), helpers, d.variables())
}

// withFewTurns lets each loop turn once.
func withFewTurns(list []impl.Stmt) []impl.Stmt {
	list = copyOf(list)
	for n := range list {
		if list[n].Kind == impl.StLoop {
			list[n].B = 1
		}
		list[n].Body, list[n].Else = withFewTurns(list[n].Body), withFewTurns(list[n].Else)
	}
	return list
}

// Scans go on from the variables as they are left.
func TestFamilyScans(t *testing.T) {
	list, helpers := listsOf("0<1[0+2|1+2] 7*[@0 3+2] 2<4[2+4|4+4]", "5+6 6<5[6+5|5+4]")
	variables := make([]uint32, 8)
	b := bytesOf(impl.Compile(stmts("0+1"), nil))
	if r := impl.Scans(b, make([][]uint32, 3)); r.Code != 0 || len(r.Keep) != 3 || !slices.Equal(r.Keep[2], variables) {
		t.Errorf("%+v", r)
	}
	variables = []uint32{1, 2, 3, 4, 5, 6, 7, 8}
	p := impl.Compile(list, helpers)
	m := impl.Memory{Keep: variables}
	for range 50 {
		variables = toldBy(list, helpers, variables).variables
		if m = impl.RunFast(p, m); !slices.Equal(m.Keep, variables) {
			t.Fatal(m.Keep, variables)
		}
	}
}

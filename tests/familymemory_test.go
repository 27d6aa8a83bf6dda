package tests

import (
	"fmt"
	"reflect"
	"slices"
	"strings"
	"sync"
	"testing"

	"loop.example/s02548/impl"
)

// oddStmts are lists of all sorts: good ones, nil and empty ones, and such as have faults on top and deep within.
func oddStmts() [][]impl.Stmt {
	list := [][]impl.Stmt{nil, {}, make([]impl.Stmt, 0, 5), {{}}, make([]impl.Stmt, 61), make([]impl.Stmt, 3000)}
	for _, text := range []string{"0+1", "@0", "@7", "0*[]", "255*[3*[0+1] @2]", "1<2[3+4|5+6]", "1<2[|7*[@1 0<0[6+6]]] 3*[2*[1*[]]]", "@0 @1 @2 @3", nestText(8, "0+1"), nestText(9, "0+1"), strings.Repeat("1<2[3+4|", 20) + strings.Repeat("]", 20)} {
		list = append(list, stmts(text))
	}
	for n, s := range wrongStmts() {
		list = append(list, []impl.Stmt{s})
		for what, stand := range standings() {
			if (n+len(what))%5 == 0 {
				list = append(list, stand([]impl.Stmt{s}))
			}
		}
	}
	for what, count := range countings() {
		list = append(list, count(20+len(what)), count(60), count(61))
	}
	deep := []impl.Stmt{{Kind: -7, A: -7, B: 1 << 40, Body: make([]impl.Stmt, 3), Else: stmts("0+1")}}
	for n := range 50 {
		deep = []impl.Stmt{{Kind: int64(n % 5), Body: deep}}
	}
	d := dice(239)
	for range 20 {
		drawn := d.looseStmts(d.next(60), 8)
		spoilt := copyOf(drawn)
		d.spoilStmt(spoilt)
		list = append(list, drawn, spoilt)
	}
	return append(list, deep)
}

func TestStmtFaultArguments(t *testing.T) {
	t.Parallel()
	seen := map[int64]int{}
	for n, list := range oddStmts() {
		list = roomyOf(list)
		before := wholeOf(list)
		want := wantedStmtFault(list)
		for range 20 {
			if got := impl.StmtFault(list); got != want {
				t.Errorf("list %d: fault %d, not %d", n, got, want)
			}
		}
		if !reflect.DeepEqual(before, wholeOf(list)) {
			t.Error("changed: list", n)
		}
		seen[want]++
	}
	for code := range int64(4) {
		if code != 3 && seen[code] < 10 || seen[code] == 0 {
			t.Error("seldom", code, seen)
		}
	}
}

// oddHelpers are some with which a list is compiled, and others.
func oddHelpers() [][][]impl.Stmt {
	helpers := [][][]impl.Stmt{nil, {}, {nil}, {{}, nil}, make([][]impl.Stmt, 8), make([][]impl.Stmt, 9), make([][]impl.Stmt, 3000), {nil, {{}}}}
	for _, texts := range [][]string{{"0+1", "1+2 3*[2+3]", "@3", "4<5[]"}, {"0+1 @1", "@2 2*[3*[]]", "2*[@3]", "@4", "@5", "@6", "@7", "7+7"}, {"@0"}, {"", "@0"}, {"@7"}} {
		list, rest := listsOf(texts...)
		helpers = append(helpers, append([][]impl.Stmt{list}, rest...))
	}
	return helpers
}

func TestCompileArgumentsAndMemory(t *testing.T) {
	t.Parallel()
	good, nothing := 0, 0
	for n, list := range oddStmts() {
		for k, helpers := range oddHelpers() {
			what := fmt.Sprint("list ", n, ", helpers ", k)
			if len(list) < 100 {
				list = roomyOf(list)
			}
			if len(helpers) < 100 {
				helpers = roomyOf(helpers)
			}
			if checkCompileArguments(t, what, list, helpers) {
				good++
			} else {
				nothing++
			}
		}
	}
	// A list as a helper too.
	for n, list := range oddStmts() {
		list = withoutCalls(list, -1)
		checkCompileArguments(t, fmt.Sprint("list and helpers ", n), list, [][]impl.Stmt{list, list, nil, list})
	}
	if good < 100 || nothing < 500 {
		t.Error("compiled", good, "answered nothing", nothing)
	}
}

// checkCompileArguments: whether something is compiled.
func checkCompileArguments(t *testing.T, what string, list []impl.Stmt, helpers [][]impl.Stmt) bool {
	t.Helper()
	beforeList, beforeHelpers := wholeOf(list), wholeOf(helpers)
	first := checkCompile(t, what, list, helpers)
	want := copyOf(first)
	for range 3 {
		again := impl.Compile(list, helpers)
		checkOwnMemory(t, what, []impl.Program{first, again}, list, helpers)
		if !sameAnswers(again, want) {
			t.Error("another answer:", what)
		}
		// What is done to an answer does not show in the next one, nor in a list behind its end.
		spoiled(&again)
	}
	if !sameAnswers(first, want) {
		t.Error("an answer is changed by a later one:", what)
	}
	if !reflect.DeepEqual(beforeList, wholeOf(list)) || !reflect.DeepEqual(beforeHelpers, wholeOf(helpers)) {
		t.Error("an argument was changed:", what)
	}
	// Nor does what is done to the arguments show in an answer.
	list, helpers = copyOf(list), copyOf(helpers)
	last := impl.Compile(list, helpers)
	spoiledNumbers(&list)
	spoiledNumbers(&helpers)
	if !sameAnswers(last, want) {
		t.Error("an answer hangs on its argument:", what)
	}
	return len(first.Funcs) > 0
}

// Far numbers in each place of a list and its helpers: what the statements tell.
func TestFamilyAtFarNumbers(t *testing.T) {
	t.Parallel()
	list, helpers := listsOf("0+1 2<3[4+5 @0|2*[3*[6+7 @1]]] 255*[]", "0<1[|@1 7*[]]", "1*[2+2]")
	good, nothing := 0, 0
	check := func(n reflect.Value) {
		was := numberIn(n)
		for _, v := range append(farNumbers(), was+1, was-1, 0, 1, 2, 3, 4, 5, 7, 8, 255, 256) {
			setNumber(n, v)
			what := fmt.Sprint(v, " for ", was)
			if got, want := impl.StmtFault(list), wantedStmtFault(list); got != want {
				t.Fatalf("%s: fault %d, not %d", what, got, want)
			}
			p := checkCompile(t, what, list, helpers)
			if len(p.Funcs) == 0 {
				nothing++
				continue
			}
			good++
			if r := impl.Check(p); r.Code != 0 {
				t.Fatalf("%s: %s", what, loadText(r))
			}
		}
		setNumber(n, was)
	}
	eachNumber(reflect.ValueOf(&list).Elem(), check)
	eachNumber(reflect.ValueOf(&helpers).Elem(), check)
	if good < 200 || nothing < 500 {
		t.Error("compiled", good, "answered nothing", nothing)
	}
}

// Lists that share memory are what they would be in memory of their own.
func TestStmtsThatShareMemory(t *testing.T) {
	one := stmts("0+1 1*[2+3] 4<5[6+7|7+6] 2*[3*[]]")
	halves := []impl.Stmt{{Kind: impl.StIf, Body: one, Else: one}, {Kind: impl.StLoop, B: 3, Body: one[1:]}, {Kind: impl.StLoop, B: 2, Body: one[:2]}}
	for what, list := range map[string][]impl.Stmt{
		"halves":        halves,
		"halves twice":  {{Kind: impl.StIf, Body: halves, Else: halves}},
		"thrice":        {{Kind: impl.StIf, Body: halves, Else: halves}, {Kind: impl.StLoop, Body: halves}},
		"pieces":        {{Kind: impl.StIf, Body: one[:1], Else: one[:3]}, {Kind: impl.StIf, Body: one[2:], Else: one[1:2]}},
		"its own piece": append(halves[:2:2], impl.Stmt{Kind: impl.StIf, A: 1, Body: halves[:1], Else: halves[1:]}),
	} {
		if got, want := impl.StmtFault(list), wantedStmtFault(copyOf(list)); got != want {
			t.Errorf("%s: fault %d, not %d", what, got, want)
		}
		helpers := [][]impl.Stmt{list, one, one[1:]}
		if got, want := impl.Compile(list, helpers), wantedProgram(copyOf(list), copyOf(helpers)); !sameAnswers(got, want) {
			t.Errorf("%s: %+v, not %+v", what, got, want)
		}
	}
	// Each level twice what the one below it is: no more than the lists themselves can be gone through.
	for _, inner := range []string{"", "0+1", "@0", "2*[]"} {
		double := stmts(inner)
		for n := range 200 {
			double = []impl.Stmt{{Kind: impl.StIf, A: int64(n % 8), Body: double, Else: double}}
		}
		checkEndless(t, "doubled "+inner, double, 2)
	}
	for n, s := range wrongStmts() {
		double := []impl.Stmt{s}
		for range 200 {
			double = []impl.Stmt{{Kind: impl.StIf, Body: double, Else: double}}
		}
		checkEndless(t, fmt.Sprint("doubled wrong ", n), double, 1)
	}
	// Behind four times there are 31 statements, behind five 63.
	double := stmts("0+1")
	for n := 1; n <= 8; n++ {
		want := int64(0)
		if n >= 5 {
			want = 2
		}
		double = []impl.Stmt{{Kind: impl.StIf, Body: double, Else: double}}
		checkStmts(t, fmt.Sprint(n, " times doubled"), double, want)
	}
}

// checkEndless: a list that can't be gone through to its end has this fault, and is not compiled, nor as a helper.
func checkEndless(t *testing.T, what string, list []impl.Stmt, want int64) {
	t.Helper()
	before := slices.Clone(list)
	for range 3 {
		if got := impl.StmtFault(list); got != want {
			t.Errorf("%s: fault %d, not %d", what, got, want)
		}
		for _, p := range []impl.Program{impl.Compile(list, nil), impl.Compile(nil, [][]impl.Stmt{nil, list}), impl.Compile(list, [][]impl.Stmt{list, list})} {
			if !sameAnswers(p, impl.Program{}) {
				t.Errorf("%s is compiled", what)
			}
		}
	}
	for n, s := range before {
		if s.Kind != list[n].Kind || s.A != list[n].A || s.B != list[n].B || len(s.Body) != len(list[n].Body) || len(s.Else) != len(list[n].Else) {
			t.Errorf("%s was changed", what)
		}
	}
}

// Lists that stand within themselves: there is an answer.
func TestStmtsThatGoRound(t *testing.T) {
	for n, wrong := range append(wrongStmts(), impl.Stmt{Kind: impl.StAssign}) {
		want := int64(1)
		if n == len(wrongStmts()) {
			want = 2
		}
		body := []impl.Stmt{{Kind: impl.StIf}, wrong}
		body[0].Body = body
		checkEndless(t, fmt.Sprint("a body ", n), body, want)
		other := []impl.Stmt{wrong, {Kind: impl.StIf}}
		other[1].Else = other
		checkEndless(t, fmt.Sprint("an else ", n), other, want)
		loop := []impl.Stmt{{Kind: impl.StLoop, B: 2}, wrong}
		loop[0].Body = loop
		checkEndless(t, fmt.Sprint("a loop ", n), loop, want)
		piece := []impl.Stmt{{Kind: impl.StLoop, B: 2}, {Kind: impl.StIf}, wrong}
		piece[0].Body, piece[1].Body, piece[1].Else = piece[:1], piece[1:2], piece[1:]
		checkEndless(t, fmt.Sprint("pieces ", n), piece, want)
		one, two := []impl.Stmt{{Kind: impl.StIf}}, []impl.Stmt{{Kind: impl.StIf}, {Kind: impl.StLoop}, wrong}
		one[0].Body, two[0].Else, two[1].Body = two, one, two
		checkEndless(t, fmt.Sprint("two ", n), one, want)
		checkEndless(t, fmt.Sprint("the other of two ", n), two[:1], want)
	}
	alone := []impl.Stmt{{Kind: impl.StLoop, B: 255}}
	alone[0].Body = alone
	checkEndless(t, "alone", alone, 2)
	all := make([]impl.Stmt, 300)
	for n := range all {
		all[n] = impl.Stmt{Kind: impl.StIf, A: int64(n % 8), Body: all, Else: all[n:]}
	}
	checkEndless(t, "all in all", all, 2)
	all[299].Body, all[299].Kind = nil, impl.StAssign
	checkEndless(t, "all in all, and a wrong one", all, 1)
}

// Very long and very deep lists.
func TestStmtsWithoutMeasure(t *testing.T) {
	t.Parallel()
	long := slices.Repeat(stmts("0+1 1<2[3+4] @0"), 30000)
	checkEndless(t, "long", long, 2)
	checkEndless(t, "long, and a wrong one", append(long, impl.Stmt{Kind: impl.StLoop, A: 1}), 1)
	for what, want := range map[string]int64{"0+1": 2, "8+1": 1} {
		deep, loops := stmts(what), stmts(what)
		for range 100000 {
			deep = []impl.Stmt{{Kind: impl.StIf, Else: deep}}
			loops = []impl.Stmt{{Kind: impl.StLoop, B: 1, Body: loops}}
		}
		checkEndless(t, "deep "+what, deep, want)
		checkEndless(t, "deep loops "+what, loops, want)
	}
}

// The same answers when many ask at once, of the same arguments.
func TestFamilyByManyAtOnce(t *testing.T) {
	t.Parallel()
	lists := oddStmts()
	_, helpers := listsOf("", "0+1 @1", "@2 2*[3*[]]", "2*[4*[]]", "", "", "", "", "")
	var group sync.WaitGroup
	for range 8 {
		group.Go(func() {
			for n, list := range lists {
				fault, program := wantedStmtFault(list), wantedProgram(list, helpers)
				for range 3 {
					if impl.StmtFault(list) != fault || !sameAnswers(impl.Compile(list, helpers), program) {
						t.Error("another answer of list", n)
					}
				}
			}
		})
	}
	group.Wait()
}

package tests

import (
	"fmt"
	"math"
	"strings"
	"testing"

	"loop.example/s02548/impl"
)

// stmtReader reads statements from a text.
type stmtReader struct{ left string }

func (r *stmtReader) take(what string) bool {
	rest, is := strings.CutPrefix(r.left, what)
	r.left = rest
	return is
}

func (r *stmtReader) number() int64 {
	n := int64(0)
	for len(r.left) > 0 && r.left[0] >= '0' && r.left[0] <= '9' {
		n = 10*n + int64(r.left[0]-'0')
		r.left = r.left[1:]
	}
	return n
}

func (r *stmtReader) list() []impl.Stmt {
	var list []impl.Stmt
	for {
		r.left = strings.TrimLeft(r.left, " ")
		if r.left == "" || r.left[0] == '|' || r.left[0] == ']' {
			return list
		}
		list = append(list, r.one())
	}
}

func (r *stmtReader) one() impl.Stmt {
	if r.take("@") {
		return impl.Stmt{Kind: impl.StCall, A: r.number()}
	}
	first := r.number()
	s := impl.Stmt{}
	switch {
	case r.take("+"):
		return impl.Stmt{Kind: impl.StAssign, A: first, B: r.number()}
	case r.take("<"):
		s = impl.Stmt{Kind: impl.StIf, A: first, B: r.number()}
	case r.take("*"):
		s = impl.Stmt{Kind: impl.StLoop, B: first}
	}
	if !r.take("[") {
		panic("no statement at " + r.left)
	}
	s.Body = r.list()
	if r.take("|") {
		s.Else = r.list()
	}
	if !r.take("]") {
		panic("no end at " + r.left)
	}
	return s
}

// stmts reads a list: 0+1 is an assignment, 0<1[..|..] an if (with or without the bar), 5*[..] a loop of 5 turns, @2 a call.
func stmts(text string) []impl.Stmt {
	r := &stmtReader{text}
	list := r.list()
	if r.left != "" {
		panic("left: " + r.left)
	}
	return list
}

// kindRow is what a kind of statement may have: the most that A and B may be, and which statements.
type kindRow struct {
	mostA   int64
	mostB   int64
	hasBody bool
	hasElse bool
}

func kindTable() map[int64]kindRow {
	return map[int64]kindRow{1: {7, 7, false, false}, 2: {7, 7, true, true}, 3: {0, 255, true, false}, 4: {7, 0, false, false}}
}

func wantedStmt(s impl.Stmt) bool {
	row, is := kindTable()[s.Kind]
	return is && s.A >= 0 && s.A <= row.mostA && s.B >= 0 && s.B <= row.mostB && (row.hasBody || len(s.Body) == 0) && (row.hasElse || len(s.Else) == 0)
}

// measureOf goes through a list: whether all is as its kind asks, how many statements there are, and in how many levels loops stand.
func measureOf(list []impl.Stmt) (good bool, count int, levels int) {
	good = true
	for _, s := range list {
		bodyGood, bodyCount, bodyLevels := measureOf(s.Body)
		elseGood, elseCount, elseLevels := measureOf(s.Else)
		good = good && wantedStmt(s) && bodyGood && elseGood
		count += 1 + bodyCount + elseCount
		own := max(bodyLevels, elseLevels)
		if s.Kind == impl.StLoop {
			own++
		}
		levels = max(levels, own)
	}
	return good, count, levels
}

func wantedStmtFault(list []impl.Stmt) int64 {
	good, count, levels := measureOf(list)
	switch {
	case !good:
		return 1
	case count > 60:
		return 2
	case levels > 8:
		return 3
	}
	return 0
}

// checkStmts: the list has this fault, by what was worked out too.
func checkStmts(t *testing.T, what string, list []impl.Stmt, want int64) {
	t.Helper()
	if wanted := wantedStmtFault(list); wanted != want {
		t.Fatalf("%s: the test itself wants %d and %d", what, want, wanted)
	}
	if got := impl.StmtFault(list); got != want {
		t.Fatalf("%s: fault %d, not %d", what, got, want)
	}
}

// standings put a list somewhere within another one, with at most 20 statements and 5 levels of loops around.
func standings() map[string]func(list []impl.Stmt) []impl.Stmt {
	around := func(text string) func(list []impl.Stmt) []impl.Stmt {
		return func(list []impl.Stmt) []impl.Stmt {
			outer := stmts(text)
			putInside(outer, list)
			return outer
		}
	}
	return map[string]func(list []impl.Stmt) []impl.Stmt{
		"alone":    func(list []impl.Stmt) []impl.Stmt { return list },
		"first":    func(list []impl.Stmt) []impl.Stmt { return append(copyOf(list), stmts("0+1 1<2[3+3] @1")...) },
		"last":     func(list []impl.Stmt) []impl.Stmt { return append(stmts("0+1 1<2[3+3] @1"), list...) },
		"body":     around("2<3[7+7|0+1]"),
		"else":     around("2<3[0+1|7+7]"),
		"loop":     around("9*[7+7]"),
		"between":  around("0+1 2<3[4+4 7+7 5+5|1+1] 3*[@0]"),
		"else of":  around("2*[0<1[1+1|4<5[2+2|3*[7+7]]]]"),
		"deep":     around("5*[4*[3*[2*[1*[7+7]]]]]"),
		"deep ifs": around(strings.Repeat("0<1[2+2|", 8) + "3<4[7+7]" + strings.Repeat("]", 8)),
	}
}

// putInside puts a list in the place of the statement 7+7; whether there was one.
func putInside(outer []impl.Stmt, list []impl.Stmt) bool {
	for n := range outer {
		for _, inner := range []*[]impl.Stmt{&outer[n].Body, &outer[n].Else} {
			for k, s := range *inner {
				if s.Kind == impl.StAssign && s.A == 7 && s.B == 7 {
					*inner = append(append(append([]impl.Stmt{}, (*inner)[:k]...), list...), (*inner)[k+1:]...)
					return true
				}
			}
			if putInside(*inner, list) {
				return true
			}
		}
	}
	return false
}

func TestStmtReaderReads(t *testing.T) {
	want := []impl.Stmt{
		{Kind: 1, A: 0, B: 7},
		{Kind: 2, A: 3, B: 4, Body: []impl.Stmt{{Kind: 3, B: 255}, {Kind: 4, A: 2}}, Else: []impl.Stmt{{Kind: 1, A: 6, B: 5}}},
		{Kind: 2, A: 1},
		{Kind: 3, B: 12, Body: []impl.Stmt{{Kind: 2, B: 1, Else: []impl.Stmt{{Kind: 4}}}}},
	}
	if got := stmts("0+7 3<4[255*[] @2|6+5] 1<0[] 12*[0<1[|@0]]"); !sameAnswers(got, want) {
		t.Errorf("%+v", got)
	}
	for what, stand := range standings() {
		_, count, _ := measureOf(stand(stmts("6+5")))
		_, more, _ := measureOf(stand(stmts("6+5 3*[6+5]")))
		if more != count+2 {
			t.Error(what, "has not what was put inside")
		}
	}
}

// The numbers of each kind at both ends of their bounds, and beyond them.
func TestStmtNumbers(t *testing.T) {
	for kind, row := range kindTable() {
		for a := int64(-3); a <= 300; a++ {
			for _, b := range []int64{0, row.mostB} {
				checkNumber(t, impl.Stmt{Kind: kind, A: a, B: b}, a >= 0 && a <= row.mostA)
			}
		}
		for b := int64(-3); b <= 300; b++ {
			for _, a := range []int64{0, row.mostA} {
				checkNumber(t, impl.Stmt{Kind: kind, A: a, B: b}, b >= 0 && b <= row.mostB)
			}
		}
		for _, far := range append(farNumbers(), 1<<8, 1<<16, 1<<32, 1<<32+1, -1<<32) {
			good := far == 0
			checkNumber(t, impl.Stmt{Kind: kind, A: far}, good || far > 0 && far <= row.mostA)
			checkNumber(t, impl.Stmt{Kind: kind, B: far}, good || far > 0 && far <= row.mostB)
			checkNumber(t, impl.Stmt{Kind: kind, A: far, B: far}, good || far > 0 && far <= min(row.mostA, row.mostB))
		}
	}
}

func checkNumber(t *testing.T, s impl.Stmt, good bool) {
	t.Helper()
	want := int64(1)
	if good {
		want = 0
	}
	checkStmts(t, fmt.Sprintf("%+v", s), []impl.Stmt{s}, want)
	checkStmts(t, fmt.Sprintf("within: %+v", s), []impl.Stmt{{Kind: impl.StIf, Else: []impl.Stmt{{Kind: impl.StLoop, Body: []impl.Stmt{s}}}}}, want)
}

// The bounds once more, by hand.
func TestStmtBoundsByHand(t *testing.T) {
	for want, list := range map[int64][]impl.Stmt{
		0: {{Kind: 1}, {Kind: 1, A: 7}, {Kind: 1, B: 7}, {Kind: 1, A: 7, B: 7}, {Kind: 1, A: 3, B: 3}, {Kind: 2}, {Kind: 2, A: 7}, {Kind: 2, B: 7}, {Kind: 2, A: 7, B: 7}, {Kind: 3}, {Kind: 3, B: 1}, {Kind: 3, B: 255}, {Kind: 4}, {Kind: 4, A: 7}},
		1: {{}, {A: 1}, {Kind: 1, A: 8}, {Kind: 1, B: 8}, {Kind: 1, A: -1}, {Kind: 1, B: -1}, {Kind: 2, A: 8}, {Kind: 2, B: 8}, {Kind: 2, A: -1}, {Kind: 2, B: -1}, {Kind: 3, A: 1}, {Kind: 3, A: -1}, {Kind: 3, B: 256}, {Kind: 3, B: -1}, {Kind: 3, A: 1, B: 255}, {Kind: 4, A: 8}, {Kind: 4, A: -1}, {Kind: 4, B: 1}, {Kind: 4, B: -1}, {Kind: 4, A: 7, B: 7}},
	} {
		for _, s := range list {
			checkStmts(t, fmt.Sprintf("%+v", s), []impl.Stmt{s}, want)
		}
	}
}

func TestStmtKinds(t *testing.T) {
	for kind := int64(-5); kind < 40; kind++ {
		checkNumber(t, impl.Stmt{Kind: kind}, kind >= 1 && kind <= 4)
	}
	for _, kind := range append(farNumbers(), 1<<8+1, 1<<16+2, 1<<32+3, 1<<32+4, -1<<32+1, math.MinInt64+1) {
		checkNumber(t, impl.Stmt{Kind: kind}, kind >= 1 && kind <= 4)
	}
}

// Statements where the kind has none; a list without any is none.
func TestStmtsWhereTheKindHasNone(t *testing.T) {
	inner := [][]impl.Stmt{stmts("0+1"), stmts("0<1[]"), stmts("3*[]"), stmts("@0"), stmts("0+1 0<1[2*[@3]|1+2]"), {{}}, {{Kind: 1, A: 8}}}
	for kind, row := range kindTable() {
		for n, list := range inner {
			fine := n < 5
			want := func(has bool) int64 {
				if has && fine {
					return 0
				}
				return 1
			}
			what := fmt.Sprint("kind ", kind, ", list ", n)
			checkStmts(t, what+" as Body", []impl.Stmt{{Kind: kind, Body: list}}, want(row.hasBody))
			checkStmts(t, what+" as Else", []impl.Stmt{{Kind: kind, Else: list}}, want(row.hasElse))
			checkStmts(t, what+" as both", []impl.Stmt{{Kind: kind, Body: list, Else: list}}, want(row.hasBody && row.hasElse))
		}
		checkStmts(t, fmt.Sprint("kind ", kind, " with empty lists"), []impl.Stmt{{Kind: kind, Body: []impl.Stmt{}, Else: make([]impl.Stmt, 0, 3)}}, 0)
	}
}

// wrongStmts are of all sorts.
func wrongStmts() []impl.Stmt {
	one := stmts("0+1")
	return []impl.Stmt{
		{}, {Kind: -1}, {Kind: 5}, {Kind: math.MinInt64}, {Kind: math.MaxInt64, Body: one},
		{Kind: 1, A: 8}, {Kind: 1, B: -1}, {Kind: 1, Body: one}, {Kind: 1, Else: one},
		{Kind: 2, A: -1}, {Kind: 2, B: 8}, {Kind: 2, A: math.MaxInt64, Body: one, Else: one},
		{Kind: 3, A: 1, B: 2}, {Kind: 3, B: 256}, {Kind: 3, B: -1, Body: one}, {Kind: 3, B: 2, Else: one},
		{Kind: 4, A: 8}, {Kind: 4, A: -1}, {Kind: 4, B: 1}, {Kind: 4, Body: one}, {Kind: 4, A: 7, Else: one},
	}
}

// A fault of one statement is told wherever it stands, and whatever else is wrong.
func TestStmtFaultsWithin(t *testing.T) {
	for what, stand := range standings() {
		checkStmts(t, what, stand(stmts("6+5")), 0)
		checkStmts(t, what+", nothing", stand(nil), 0)
		for n, s := range wrongStmts() {
			for other, inside := range standings() {
				checkStmts(t, fmt.Sprint(what, ", ", other, ", ", n), stand(inside([]impl.Stmt{s})), 1)
			}
		}
	}
}

// countings make a list of so many statements in all, at least 20, in at most 8 levels of loops.
func countings() map[string]func(count int) []impl.Stmt {
	flat := func(count int) []impl.Stmt {
		list := make([]impl.Stmt, count)
		for n := range list {
			list[n] = []impl.Stmt{{Kind: 1, A: 1}, {Kind: 2}, {Kind: 3, B: 2}, {Kind: 4}}[n%4]
		}
		return list
	}
	chain := func(wrap func(n int, inner []impl.Stmt) impl.Stmt) func(count int) []impl.Stmt {
		return func(count int) []impl.Stmt {
			var list []impl.Stmt
			for n := range count {
				list = []impl.Stmt{wrap(n, list)}
			}
			return list
		}
	}
	return map[string]func(count int) []impl.Stmt{
		"flat":    flat,
		"a body":  func(count int) []impl.Stmt { return []impl.Stmt{{Kind: 2, Body: flat(count - 1)}} },
		"an else": func(count int) []impl.Stmt { return []impl.Stmt{{Kind: 2, Else: flat(count - 1)}} },
		"halves": func(count int) []impl.Stmt {
			return []impl.Stmt{{Kind: 2, Body: flat(count / 2), Else: flat(count - count/2 - 1)}}
		},
		"a loop":      func(count int) []impl.Stmt { return []impl.Stmt{{Kind: 3, Body: flat(count - 1)}} },
		"two":         func(count int) []impl.Stmt { return append(stmts("2*[0+1 0<1[1+1|2+2]]"), flat(count-5)...) },
		"eight loops": func(count int) []impl.Stmt { return nestLoops(7, flat(count-7)) },
		"in bodies":   chain(func(n int, inner []impl.Stmt) impl.Stmt { return impl.Stmt{Kind: 2, Body: inner} }),
		"in elses":    chain(func(n int, inner []impl.Stmt) impl.Stmt { return impl.Stmt{Kind: 2, A: 1, Else: inner} }),
		"in both": chain(func(n int, inner []impl.Stmt) impl.Stmt {
			if n%2 == 0 {
				return impl.Stmt{Kind: 2, B: 1, Body: inner}
			}
			return impl.Stmt{Kind: 2, Else: inner}
		}),
		"loops ahead": chain(func(n int, inner []impl.Stmt) impl.Stmt {
			if n < 8 {
				return impl.Stmt{Kind: 3, B: 1, Body: inner}
			}
			return impl.Stmt{Kind: 2, Else: inner}
		}),
	}
}

// nestLoops puts a list in so many loops.
func nestLoops(levels int, list []impl.Stmt) []impl.Stmt {
	for range levels {
		list = []impl.Stmt{{Kind: impl.StLoop, B: 2, Body: list}}
	}
	return list
}

func TestStmtCounts(t *testing.T) {
	checkStmts(t, "nil", nil, 0)
	checkStmts(t, "none", []impl.Stmt{}, 0)
	for what, count := range countings() {
		for _, n := range []int{20, 21, 40, 59, 60, 61, 62, 100, 1000} {
			list := count(n)
			if _, got, _ := measureOf(list); got != n {
				t.Fatal(what, "has", got, "statements, not", n)
			}
			want := int64(0)
			if n > 60 {
				want = 2
			}
			checkStmts(t, fmt.Sprint(what, " ", n), list, want)
			for k, s := range wrongStmts() {
				spoilt := append(count(n), s)
				checkStmts(t, fmt.Sprint(what, " ", n, " and wrong ", k), spoilt, 1)
				checkStmts(t, fmt.Sprint("wrong ", k, " and ", what, " ", n), append([]impl.Stmt{s}, count(n)...), 1)
			}
		}
	}
}

// levelings make a list with loops in so many levels.
func levelings() map[string]func(levels int) []impl.Stmt {
	wrapped := func(before string, after string, middle string) func(levels int) []impl.Stmt {
		return func(levels int) []impl.Stmt {
			return stmts(strings.Repeat(before, levels) + middle + strings.Repeat(after, levels))
		}
	}
	return map[string]func(levels int) []impl.Stmt{
		"loops":         wrapped("2*[", "]", "0+1"),
		"empty loops":   wrapped("2*[", "]", ""),
		"no turns":      wrapped("0*[", "]", "1<2[]"),
		"many turns":    wrapped("255*[", "]", "@7"),
		"ifs between":   wrapped("0<1[2*[", "]]", "0+1"),
		"elses between": wrapped("3*[0<1[0+1|", "]]", ""),
		"ifs ahead":     wrapped("2*[", "]", strings.Repeat("0<1[", 20)+strings.Repeat("]", 20)),
		"others beside": wrapped("1*[] 0+1 5*[1+1 ", "@0]", "1+2"),
		"both sides":    wrapped("2<3[1*[]|1*[", "]]", "0+0"),
	}
}

func TestStmtLevels(t *testing.T) {
	for what, level := range levelings() {
		for levels := 0; levels <= 12; levels++ {
			list := level(levels)
			_, count, got := measureOf(list)
			if got != levels {
				t.Fatal(what, "has", got, "levels, not", levels)
			}
			want := int64(0)
			switch {
			case count > 60:
				want = 2
			case levels > 8:
				want = 3
			}
			if levels <= 10 && count > 60 {
				t.Fatal(what, "is too long to tell", levels, "levels")
			}
			checkStmts(t, fmt.Sprint(what, " ", levels), list, want)
			if count+4 <= 60 {
				checkStmts(t, fmt.Sprint(what, " ", levels, " behind another"), append(stmts("1*[1*[1+1] 2+2]"), list...), want)
				checkStmts(t, fmt.Sprint(what, " ", levels, " in an else"), []impl.Stmt{{Kind: 2, Else: list}}, want)
			}
		}
	}
	checkStmts(t, "side by side", stmts(strings.Repeat("1*[0+1] ", 30)), 0)
	checkStmts(t, "in both halves", []impl.Stmt{{Kind: 2, Body: nestLoops(8, nil), Else: nestLoops(8, nil)}}, 0)
	checkStmts(t, "in one half", []impl.Stmt{{Kind: 2, Body: nestLoops(8, nil), Else: nestLoops(9, nil)}}, 3)
	checkStmts(t, "in the other half", []impl.Stmt{{Kind: 2, Body: nestLoops(9, nil), Else: nestLoops(8, nil)}}, 3)
	checkStmts(t, "eight around both halves", nestLoops(8, stmts("0<1[0+1|2*[]]")), 3)
	checkStmts(t, "sixty levels", nestLoops(60, nil), 3)
	checkStmts(t, "sixty one levels", nestLoops(61, nil), 2)
}

// Several faults at once: the one that is named first counts.
func TestStmtFaultOrder(t *testing.T) {
	many := countings()["flat"](61)
	deep := nestLoops(9, stmts("0+1"))
	wrong := []impl.Stmt{{Kind: 9}}
	join := func(lists ...[]impl.Stmt) []impl.Stmt {
		var all []impl.Stmt
		for _, list := range lists {
			all = append(all, list...)
		}
		return all
	}
	for _, x := range []struct {
		what string
		want int64
		list []impl.Stmt
	}{
		{"wrong", 1, wrong},
		{"many", 2, many},
		{"deep", 3, deep},
		{"wrong and many", 1, join(wrong, many)},
		{"many and wrong", 1, join(many, wrong)},
		{"wrong and deep", 1, join(wrong, deep)},
		{"deep and wrong", 1, join(deep, wrong)},
		{"many and deep", 2, join(many, deep)},
		{"deep and many", 2, join(deep, many)},
		{"all", 1, join(deep, many, wrong)},
		{"all, the other way round", 1, join(wrong, many, deep)},
		{"wrong within deep", 1, nestLoops(9, wrong)},
		{"many within deep", 2, nestLoops(9, many)},
		{"all within deep", 1, nestLoops(9, join(many, wrong))},
		{"deep within wrong", 1, []impl.Stmt{{Kind: 3, A: 1, Body: deep}}},
		{"many where the kind has none", 1, []impl.Stmt{{Kind: 1, Body: many}}},
		{"deep where the kind has none", 1, []impl.Stmt{{Kind: 4, Else: deep}}},
		{"many within no kind", 1, []impl.Stmt{{Kind: 0, Body: many}}},
		{"wrong behind a thousand", 1, join(countings()["in elses"](1000), wrong)},
		{"wrong within a thousand", 1, []impl.Stmt{{Kind: 2, Body: countings()["in bodies"](1000), Else: []impl.Stmt{{Kind: 2, Body: wrong}}}}},
	} {
		checkStmts(t, x.what, x.list, x.want)
	}
}

// Lists by chance, some with a number changed.
func TestStmtFaultOfManyLists(t *testing.T) {
	t.Parallel()
	d := dice(211)
	seen := map[int64]int{}
	for round := range 20000 {
		list := d.looseStmts(d.next(80), d.next(25))
		for range d.next(2) * d.next(3) {
			d.spoilStmt(list)
		}
		got, want := impl.StmtFault(list), wantedStmtFault(list)
		if got != want {
			t.Fatalf("round %d: fault %d, not %d, of %+v", round, got, want, list)
		}
		seen[got]++
	}
	for code := range int64(4) {
		if seen[code] < 500 {
			t.Error("seldom", code, seen)
		}
	}
}

// looseStmts is a list of so many, those within them counted, with loops in so many levels at the most.
func (d *dice) looseStmts(count int, levels int) []impl.Stmt {
	var list []impl.Stmt
	for count > 0 {
		own := 1 + d.next(count)
		if d.next(2) == 0 {
			own = count
		}
		count -= own
		s := impl.Stmt{Kind: impl.StLoop, B: []int64{0, 1, 2, 3, 17, 255}[d.next(6)]}
		switch {
		case levels > 0 && d.next(4) > 0:
			s.Body = d.looseStmts(own-1, levels-1)
		case own > 1:
			half := d.next(own)
			s = impl.Stmt{Kind: impl.StIf, A: d.number(8), B: d.number(8), Body: d.looseStmts(half, levels), Else: d.looseStmts(own-1-half, levels)}
		case d.next(2) == 0:
			s = impl.Stmt{Kind: impl.StAssign, A: d.number(8), B: d.number(8)}
		default:
			s = impl.Stmt{Kind: impl.StCall, A: d.number(8)}
		}
		list = append(list, s)
	}
	return list
}

// spoilStmt changes something of a statement of the list, or of one within it.
func (d *dice) spoilStmt(list []impl.Stmt) {
	if len(list) == 0 {
		return
	}
	s := &list[d.next(len(list))]
	for d.next(3) > 0 && len(s.Body)+len(s.Else) > 0 {
		inner := append(append([]*impl.Stmt{}, pointers(s.Body)...), pointers(s.Else)...)
		s = inner[d.next(len(inner))]
	}
	values := []int64{-1, 0, 1, 7, 8, 255, 256, math.MaxInt64, math.MinInt64}
	switch d.next(5) {
	case 0:
		s.Kind = []int64{-1, 0, 1, 2, 3, 4, 5, 1 << 32}[d.next(8)]
	case 1:
		s.A = values[d.next(len(values))]
	case 2:
		s.B = values[d.next(len(values))]
	case 3:
		s.Body, s.Else = s.Else, s.Body
	case 4:
		s.Else = nil
	}
}

func pointers(list []impl.Stmt) []*impl.Stmt {
	var to []*impl.Stmt
	for n := range list {
		to = append(to, &list[n])
	}
	return to
}

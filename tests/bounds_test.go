package tests

import (
	"fmt"
	"slices"
	"strconv"
	"strings"
	"testing"

	"loop.example/s02548/impl"
)

// several is a program of functions, each of marked code with certificates as words like !h:0:6 among it. A first word like iu>b tells parameters and result; behind the parameters each has five locals: four of uint, and a bool. The constants are true, an int, and the uints 6 0 1 2 5 1000 and 2^29.
func several(texts ...string) impl.Program {
	p := impl.Program{Regions: [][]int64{{1, 3}, {3, 3, 3, 3, 1}, {3, 3}}}
	p.Consts = []impl.Const{{Type: 1, Word: 1}, {Type: 2, Word: 0xfffffff9}}
	for _, word := range []uint32{6, 0, 1, 2, 5, 1000, 1 << 29} {
		p.Consts = append(p.Consts, impl.Const{Type: 3, Word: word})
	}
	letters := func(text string) []int64 {
		var types []int64
		for _, letter := range text {
			types = append(types, int64(strings.IndexRune(" biu", letter)))
		}
		return types
	}
	for number, text := range texts {
		f := impl.Func{Locals: []int64{3, 3, 3, 3, 1}}
		var words, certs []string
		for _, word := range strings.Fields(text) {
			params, result, head := strings.Cut(word, ">")
			cert, is := strings.CutPrefix(word, "!")
			switch {
			case head:
				f.Params, f.Result = letters(params), append(letters(result), 0)[0]
			case is:
				certs = append(certs, cert)
			default:
				words = append(words, word)
			}
		}
		code, places := marked(strings.Join(words, " "))
		f.Code = code
		p.Funcs = append(p.Funcs, f)
		for _, cert := range certs {
			parts := strings.Split(cert, ":")
			counter, _ := strconv.ParseInt(parts[1], 10, 64)
			init, _ := strconv.ParseUint(parts[2], 10, 32)
			p.Certs = append(p.Certs, impl.Cert{Func: int64(number), Head: places[parts[0]], Counter: counter, Init: uint32(init)})
		}
	}
	slices.SortFunc(p.Certs, func(a, b impl.Cert) int { return int(a.Func-b.Func)<<12 + int(a.Head-b.Head) })
	return p
}

func wantedBound(p impl.Program) impl.BoundResult {
	if impl.ProgramFault(p) != 0 {
		return impl.BoundResult{Code: 1}
	}
	order := wantedCalls(p)
	if len(order) == 0 {
		return impl.BoundResult{Code: 2}
	}
	costs, depths := make([]int64, len(p.Funcs)), make([]int64, len(p.Funcs))
	for f := range costs {
		costs[f] = -1
	}
	for _, f := range order {
		code := p.Funcs[f].Code
		flow := wantedFlow(code)
		if flow.Code != 0 {
			return impl.BoundResult{Code: 3, Func: f, At: flow.At}
		}
		types := wantedTypes(p, f)
		if types.Code != 0 {
			return impl.BoundResult{Code: 4, Func: f, At: types.At}
		}
		heads := map[int64]bool{}
		for _, l := range flow.Loops {
			at := flow.Blocks[l.Head].First
			heads[at] = true
			if wantedLoopFault(p, f, l) != 0 {
				return impl.BoundResult{Code: 5, Func: f, At: at}
			}
		}
		for _, c := range p.Certs {
			if c.Func == f && !heads[c.Head] {
				return impl.BoundResult{Code: 6, Func: f, At: c.Head}
			}
		}
		costs[f] = wantedCost(p, f, costs)
		if costs[f] < 0 {
			return impl.BoundResult{Code: 7, Func: f}
		}
		depths[f] = types.Depth
		for at, i := range code {
			if i.Op == impl.OpCall {
				depths[f] = max(depths[f], int64(len(types.Shapes[at])-len(p.Funcs[i.A].Params))+depths[i.A])
			}
		}
		if depths[f] > 64 {
			return impl.BoundResult{Code: 8, Func: f}
		}
	}
	return impl.BoundResult{Costs: costs, Depths: depths}
}

// checkBound holds the bound of a program against the model, and tells it.
func checkBound(t *testing.T, what string, p impl.Program) impl.BoundResult {
	t.Helper()
	got, want := impl.BoundOf(p), wantedBound(p)
	if !sameAnswers(got, want) {
		t.Fatalf("%s: %+v, not %+v", what, got, want)
	}
	if got.Code != 0 && (len(got.Costs) != 0 || len(got.Depths) != 0) {
		t.Fatalf("%s: a code and more: %+v", what, got)
	}
	return got
}

func TestBoundsOfSomePrograms(t *testing.T) {
	for _, x := range []struct {
		costs  string
		depths string
		texts  []string
	}{
		{"2", "0", []string{"r"}},
		{"4", "1", []string{"u x r"}},
		// By number, whatever the order of calls is.
		{"2,3,4", "0,0,0", []string{"r", "n r", "n n r"}},
		{"11,5,2", "1,1,0", []string{"call:1 r", "n u x r", "r"}},
		{"14,8,2", "0,0,0", []string{"call:1 r", "call:2 r", "r"}},
		{"2,8,14", "0,0,0", []string{"r", "call:0 r", "call:1 r"}},
		{"10,5,4", "0,0,0", []string{"call:2 r", "n n n r", "n n r"}},
		{"3,9,16", "0,0,0", []string{"n r", "call:0 r", "n call:1 r"}},
		{"26,10,6,2", "2,1,2,0", []string{"call:1 call:2 r", "u x call:3 r", "u u x x r", "r"}},
		// A loop with a call, and loops in both functions.
		{"82,6", "1,0", []string{"const:6 storelocal:0 @h guard:0:@o call:1 n j@h @o n r !h:0:5", "n n n n r"}},
		{"246,39", "1,1", []string{"const:6 storelocal:0 @h guard:0:@o call:1 n j@h @o r !h:0:5", "u storelocal:0 @h guard:0:@o n j@h @o n n n r !h:0:6"}},
	} {
		p := several(x.texts...)
		r := checkBound(t, fmt.Sprint(x.texts), p)
		if r.Code != 0 || r.Func != 0 || r.At != 0 || listText(r.Costs) != x.costs || listText(r.Depths) != x.depths {
			t.Errorf("%q: %+v, not %s and %s", x.texts, r, x.costs, x.depths)
		}
	}
}

// depthCase is a program, and the depths of its functions; none: the first one is too deep.
type depthCase struct {
	depths string
	texts  []string
}

func some(word string, count int) string { return strings.Repeat(word+" ", count) }

// tower is code that brings so many values on the stack and takes them off again.
func tower(count int) string { return some("u", count) + some("x", count) }

func depthCases() []depthCase {
	return []depthCase{
		// By shapes alone: at an instruction, and behind the last one but the return.
		{"0", []string{"r"}},
		{"3", []string{"u u u x x x r"}},
		{"0,1", []string{"r", ">u u r"}},
		{"2", []string{"b z@a u u x x @a u x r"}},
		{"64", []string{tower(64) + "r"}},
		{"0,64", []string{"r", tower(64) + "r"}},
		// Of a call: what stands below it, and the callee's depth.
		{"3,2", []string{"u call:1 x r", tower(2) + "r"}},
		{"3,3", []string{"call:1 r", tower(3) + "r"}},
		{"5,1", []string{tower(5) + "call:1 r", tower(1) + "r"}},
		{"5,0", []string{some("u", 5) + "call:1 " + some("x", 5) + "r", "r"}},
		{"7,2", []string{some("u", 5) + "call:1 " + some("x", 5) + "r", tower(2) + "r"}},
		// The parameters are no part of what stands below; the result stands there when it is back.
		{"3,0", []string{"u i u call:1 x r", "iu> r"}},
		{"4,2", []string{"u u i u call:1 x x r", "iu> " + tower(2) + "r"}},
		{"5,3", []string{"u u i u call:1 x x r", "iu> " + tower(3) + "r"}},
		{"2,1", []string{"u call:1 x x r", ">b b r"}},
		{"3,1", []string{"u u call:1 x x x r", ">b b r"}},
		{"9,8", []string{"u i u b call:1 x x r", "iub>u " + tower(8) + "u r"}},
		{"8,1", []string{some("u", 8) + "call:1 r", "uuuuuuuu> u x r"}},
		{"8,8", []string{some("u", 8) + "call:1 r", "uuuuuuuu> " + tower(8) + "r"}},
		{"9,9", []string{some("u", 8) + "call:1 r", "uuuuuuuu> " + tower(9) + "r"}},
		// Several calls: much below a flat one, little below a deep one.
		{"9,1,6", []string{some("u", 8) + "call:1 " + some("x", 6) + "call:2 x x r", tower(1) + "r", tower(6) + "r"}},
		{"9,1,7", []string{some("u", 8) + "call:1 " + some("x", 6) + "call:2 x x r", tower(1) + "r", tower(7) + "r"}},
		{"10,1,8", []string{some("u", 8) + "call:1 " + some("x", 6) + "call:2 x x r", tower(1) + "r", tower(8) + "r"}},
		{"10,8,1", []string{"u u call:1 " + some("u", 6) + "call:2 " + some("x", 8) + "r", tower(8) + "r", tower(1) + "r"}},
		// Through several levels.
		{"6,5,3", []string{"u call:1 x r", "u u call:2 x x r", tower(3) + "r"}},
		{"3,5,6", []string{tower(3) + "r", "u u call:0 x x r", "u call:1 x r"}},
		{"5,4,3", []string{"u u call:1 x r", "u> u call:2 x r", tower(3) + "r"}},
		// Just the most there may be, and one more.
		{"64,40", []string{some("u", 24) + "call:1 " + some("x", 24) + "r", tower(40) + "r"}},
		{"", []string{some("u", 25) + "call:1 " + some("x", 25) + "r", tower(40) + "r"}},
		{"", []string{some("u", 24) + "call:1 " + some("x", 24) + "r", tower(41) + "r"}},
		{"64,40", []string{some("u", 26) + "call:1 " + some("x", 24) + "r", "uu> " + tower(40) + "r"}},
		{"", []string{some("u", 27) + "call:1 " + some("x", 25) + "r", "uu> " + tower(40) + "r"}},
		{"64,64", []string{"call:1 r", tower(64) + "r"}},
		{"", []string{"u call:1 x r", tower(64) + "r"}},
		{"64,64", []string{"u u call:1 r", "uu> " + tower(64) + "r"}},
		{"", []string{"u u u call:1 x r", "uu> " + tower(64) + "r"}},
		{"64,1", []string{some("u", 63) + "call:1 " + some("x", 63) + "r", tower(1) + "r"}},
		{"64,0", []string{some("u", 64) + "call:1 " + some("x", 64) + "r", "r"}},
		{"", []string{some("u", 64) + "call:1 " + some("x", 64) + "r", tower(1) + "r"}},
		{"64,56", []string{some("u", 8) + some("u", 8) + "call:1 " + some("x", 8) + "r", "uuuuuuuu> " + tower(56) + "r"}},
		{"", []string{some("u", 8) + some("u", 8) + "call:1 " + some("x", 8) + "r", "uuuuuuuu> " + tower(57) + "r"}},
		// By levels, of which none is too deep by itself.
		{"64,43,22", []string{some("u", 21) + "call:1 " + some("x", 21) + "r", some("u", 21) + "call:2 " + some("x", 21) + "r", tower(22) + "r"}},
		{"", []string{some("u", 21) + "call:1 " + some("x", 21) + "r", some("u", 21) + "call:2 " + some("x", 21) + "r", tower(23) + "r"}},
		{"", []string{some("u", 22) + "call:1 " + some("x", 22) + "r", some("u", 21) + "call:2 " + some("x", 21) + "r", tower(22) + "r"}},
		// One call among several is too deep: the first or the last one.
		{"", []string{some("u", 25) + "call:1 " + some("x", 25) + "call:1 r", tower(40) + "r"}},
		{"", []string{"call:1 " + some("u", 25) + "call:1 " + some("x", 25) + "r", tower(40) + "r"}},
		// On a side of a branch.
		{"", []string{"b z@a " + some("u", 25) + "call:1 " + some("x", 25) + "@a r", tower(40) + "r"}},
	}
}

func TestDepths(t *testing.T) {
	for _, x := range depthCases() {
		r := checkBound(t, fmt.Sprint(x.texts), several(x.texts...))
		if x.depths == "" {
			if r.Code != 8 || r.Func != 0 || r.At != 0 {
				t.Errorf("%q: %+v", x.texts, r)
			}
		} else if r.Code != 0 || listText(r.Depths) != x.depths {
			t.Errorf("%q: %+v, not %s", x.texts, r, x.depths)
		}
	}
	// One more by shapes alone is a matter of types.
	if r := checkBound(t, "too high", several(tower(65)+"r")); r.Code != 4 || r.At != 64 {
		t.Errorf("too high: %+v", r)
	}
	// The longest way of calls that there is.
	var texts []string
	for f := range impl.MaxFuncs - 1 {
		texts = append(texts, fmt.Sprintf("u u call:%d x x r", f+1))
	}
	deep := append(slices.Clone(texts), tower(2)+"r")
	if r := checkBound(t, "many levels", several(deep...)); r.Code != 0 || r.Depths[0] != 64 || r.Depths[31] != 2 {
		t.Errorf("many levels: %+v", r)
	}
	deep = append(slices.Clone(texts), tower(3)+"r")
	if r := checkBound(t, "too many levels", several(deep...)); r.Code != 8 || r.Func != 0 {
		t.Errorf("too many levels: %+v", r)
	}
	deep = append(slices.Clone(texts), tower(8)+"r")
	if r := checkBound(t, "far too many levels", several(deep...)); r.Code != 8 || r.Func != 2 {
		t.Errorf("far too many levels: %+v", r)
	}
}

// piece is a part of code that brings a code of the bound, with a mark at the place that is told; big and deep are functions that it may call.
func piece(code int, mark string, big int, deep int) string {
	m := "@" + mark
	switch code {
	case 3:
		return fmt.Sprintf("j%sx %s n %sx n", m, m, m)
	case 4:
		return m + " x"
	case 5:
		return fmt.Sprintf("n %s b z%s", m, m)
	case 6:
		return fmt.Sprintf("n %s n !%s:0:6", m, mark)
	case 7:
		return fmt.Sprintf("call:%d call:%d", big, big)
	case 8:
		return some("u", 30) + fmt.Sprintf("call:%d ", deep) + some("x", 30)
	}
	return "n"
}

const bigText = "const:8 storelocal:0 @h guard:0:@o j@h @o r !h:0:536870912"

// faultyText is code with these pieces, and where the least of their codes is told.
func faultyText(codes []int, big int, deep int) (string, int64, int64) {
	var words []string
	for _, code := range codes {
		words = append(words, piece(code, fmt.Sprint("m", code), big, deep))
	}
	text := strings.Join(append(words, "r"), " ")
	least := slices.Min(codes)
	var plain []string
	for _, word := range strings.Fields(text) {
		if !strings.HasPrefix(word, "!") {
			plain = append(plain, word)
		}
	}
	_, places := marked(strings.Join(plain, " "))
	at := places[fmt.Sprint("m", least)]
	return text, int64(least), at
}

// Each set of codes of one function, in several orders: the one that is named first counts.
func TestBoundCodesOfOneFunction(t *testing.T) {
	t.Parallel()
	seen := map[int64]int{}
	for chosen := 1; chosen < 64; chosen++ {
		var codes []int
		for code := 3; code <= 8; code++ {
			if chosen>>(code-3)&1 == 1 {
				codes = append(codes, code)
			}
		}
		for range codes {
			codes = append(codes[1:], codes[0])
			for _, turned := range []bool{false, true} {
				list := slices.Clone(codes)
				if turned {
					slices.Reverse(list)
				}
				text, code, at := faultyText(list, 1, 2)
				r := checkBound(t, text, several(text, bigText, tower(40)+"r"))
				if r.Code != code || r.Func != 0 || r.At != at {
					t.Errorf("of %s: %+v, not %d at %d", text, r, code, at)
				}
				seen[code]++
				// The same in another function.
				r = checkBound(t, text, several("call:2 r", bigText, strings.ReplaceAll(text, "call:2", "call:3"), tower(40)+"r"))
				if r.Code != code || r.Func != 2 || r.At != at {
					t.Errorf("of %s in function 2: %+v, not %d at %d", text, r, code, at)
				}
			}
		}
	}
	for code := int64(3); code <= 8; code++ {
		if seen[code] < 2 {
			t.Error("seldom:", code, seen)
		}
	}
}

// Codes of several functions: the first function by the order of calls counts, whatever its code is.
func TestBoundCodesOfSeveralFunctions(t *testing.T) {
	t.Parallel()
	seen := map[int64]int{}
	for first := 3; first <= 8; first++ {
		for second := 3; second <= 8; second++ {
			for _, calls := range [][3]string{{"", "", ""}, {"", "call:2", ""}, {"", "", "call:1"}, {"call:1", "", ""}, {"call:2 call:1", "", ""}, {"call:1", "call:2", ""}, {"call:2", "", "call:1"}, {"call:3", "", ""}} {
				for _, faulty := range [][2]int{{1, 2}, {2, 1}, {0, 1}, {1, 0}, {0, 2}, {2, 0}} {
					texts := []string{calls[0] + " r", calls[1] + " r", calls[2] + " r", bigText, tower(40) + "r"}
					want := map[int64]impl.BoundResult{}
					for k, code := range []int{first, second} {
						f := faulty[k]
						text, code, at := faultyText([]int{code}, 3, 4)
						if code < 7 {
							at += int64(len(strings.Fields(calls[f])))
						}
						texts[f] = calls[f] + " " + text
						want[int64(f)] = impl.BoundResult{Code: code, Func: int64(f), At: at}
					}
					p := several(texts...)
					r := checkBound(t, fmt.Sprint(texts), p)
					for _, f := range wantedCalls(p) {
						if told, is := want[f]; is {
							if !sameAnswers(r, told) {
								t.Errorf("%q: %+v, not %+v", texts, r, told)
							}
							seen[f]++
							break
						}
					}
				}
			}
		}
	}
	if seen[0] < 100 || seen[1] < 100 || seen[2] < 100 {
		t.Error("seldom:", seen)
	}
}

func TestBoundCodesOfPrograms(t *testing.T) {
	for _, c := range faultCases() {
		p := someProgram()
		c.change(&p)
		r := checkBound(t, c.name, p)
		if (r.Code == 1) != (c.want != 0) || r.Code == 1 && !sameAnswers(r, impl.BoundResult{Code: 1}) {
			t.Errorf("%s: %+v", c.name, r)
		}
	}
	for i, p := range append(oddPrograms(), goodPrograms()...) {
		checkBound(t, fmt.Sprint("program ", i), p)
	}
	for _, calls := range [][][]int64{{{0}}, {{1}, {0}}, {nil, {1}}, {nil, {2}, {1}}, {{1}, {2}, {0}}} {
		p := caller(calls...)
		if r := checkBound(t, fmt.Sprint(calls), p); !sameAnswers(r, impl.BoundResult{Code: 2}) {
			t.Errorf("calls %v: %+v", calls, r)
		}
		// Whatever else is wrong with its functions; but a fault of the program counts ahead.
		p.Funcs[0].Code = append(p.Funcs[0].Code, instr(impl.OpDrop))
		if r := checkBound(t, fmt.Sprint(calls), p); !sameAnswers(r, impl.BoundResult{Code: 2}) {
			t.Errorf("calls %v and more: %+v", calls, r)
		}
		p.Funcs[0].Result = 1
		if r := checkBound(t, fmt.Sprint(calls), p); !sameAnswers(r, impl.BoundResult{Code: 1}) {
			t.Errorf("calls %v and a fault: %+v", calls, r)
		}
	}
}

// Each code of flows and of types with its place, and the first of several loops and certificates.
func TestBoundPlaces(t *testing.T) {
	loop := "const:6 storelocal:%d @%s guard:%d:@%so n j@%s @%so"
	looped := func(mark string, counter int) string {
		return fmt.Sprintf(loop, counter, mark, counter, mark, mark, mark)
	}
	for _, x := range []struct {
		code int64
		at   int64
		text string
	}{
		{3, 1, "n n"}, {3, 0, "x"}, {3, 2, "n r n r"}, {3, 1, "guard:0:@a @b n @a b z@b r"}, {3, 4, "n n r j@a @a x"},
		{4, 0, "x r"}, {4, 1, "u neg x r"}, {4, 64, some("u", 65) + "r"}, {4, 1, "u r"}, {4, 2, "b z@a u @a r"}, {4, 0, "guard:4:@a @a r"},
		{5, 0, "@h b z@h r"}, {5, 1, "n @h b z@h r !h:0:6"}, {5, 2, "const:6 storelocal:0 @h guard:0:@o n j@h @o r !h:0:6"},
		// Of two loops that have a fault the first one, by heads; the second one, if the first has none.
		{5, 2, looped("a", 0) + " " + looped("b", 1) + " r"},
		{5, 2, looped("a", 0) + " " + looped("b", 1) + " r !b:1:5"},
		{5, 7, looped("a", 0) + " " + looped("b", 1) + " r !a:0:5"},
		{5, 7, looped("a", 0) + " " + looped("b", 1) + " r !a:0:5 !b:0:5"},
		{0, 0, looped("a", 0) + " " + looped("b", 1) + " r !a:0:5 !b:1:5"},
		// The inner one stands behind the outer one's head; a head may stand ahead of the first block of its loop in the order.
		{5, 2, "const:6 storelocal:0 @a guard:0:@ao " + looped("b", 1) + " j@a @ao r"},
		{5, 5, "const:6 storelocal:0 @a guard:0:@ao " + looped("b", 1) + " j@a @ao r !a:0:5"},
		{5, 1, "j@e @h guard:0:@o n j@h @o r @e " + looped("a", 1) + " const:6 storelocal:0 j@h !a:1:5 !h:0:6"},
		{0, 0, "j@e @h guard:0:@o n j@h @o r @e " + looped("a", 1) + " const:6 storelocal:0 j@h !a:1:5 !h:0:5"},
		// A certificate that is no loop's: the first such one.
		{6, 0, "@a r !a:0:6"}, {6, 1, "n @a r !a:0:6"},
		{6, 0, "@x n " + looped("a", 0) + " r !x:0:5 !a:0:5"},
		{6, 5, looped("a", 0) + " @x n r !x:0:5 !a:0:5"},
		{6, 4, "const:6 storelocal:0 @a guard:0:@o n @x j@a @o @y r !x:0:5 !a:0:5 !y:0:5"},
		{6, 1, "const:6 @x storelocal:0 @a guard:0:@o n j@a @o @y r !x:0:5 !a:0:5 !y:0:5"},
		// One at the number of the head's block.
		{6, 1, "const:6 @x storelocal:0 @a guard:0:@o n j@a @o r !x:0:5 !a:0:5"},
		{7, 0, "n n n call:1 call:1 r"}, {7, 0, "const:7 storelocal:0 @h guard:0:@o call:1 j@h @o r !h:0:1000"},
		{8, 0, some("n", 9) + some("u", 30) + "call:2 " + some("x", 30) + "r"},
	} {
		p := several(x.text, bigText, tower(40)+"r")
		r := checkBound(t, x.text, p)
		if r.Code != x.code || r.At != x.at || r.Func != 0 {
			t.Errorf("of %s: %+v, not %d at %d", x.text, r, x.code, x.at)
		}
		// In the function that is come to last.
		p = several("call:3 r", bigText, tower(40)+"r", x.text)
		r = checkBound(t, "later "+x.text, p)
		if r.Code != x.code || r.At != x.at || r.Func != 3 && x.code != 0 {
			t.Errorf("of %s as function 3: %+v, not %d at %d", x.text, r, x.code, x.at)
		}
	}
}

// Certificates of the functions beside it are nothing to a function: each needs its own.
func TestBoundCertificatesOfOthers(t *testing.T) {
	text := "const:6 storelocal:0 @h guard:0:@o n j@h @o r"
	for chosen := range 8 {
		var texts []string
		want := impl.BoundResult{}
		for f := range 3 {
			with := text
			if chosen>>f&1 == 1 {
				with += " !h:0:5"
			} else if want.Code == 0 {
				want = impl.BoundResult{Code: 5, Func: int64(f), At: 2}
			}
			texts = append(texts, with)
		}
		if want.Code == 0 {
			want.Costs, want.Depths = []int64{31, 31, 31}, []int64{1, 1, 1}
		}
		if r := checkBound(t, fmt.Sprint(chosen), several(texts...)); !sameAnswers(r, want) {
			t.Errorf("%03b: %+v, not %+v", chosen, r, want)
		}
	}
}

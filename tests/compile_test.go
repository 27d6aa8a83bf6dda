package tests

import (
	"fmt"
	"slices"
	"strings"
	"testing"

	"loop.example/s02548/impl"
)

// lister writes the code of statements as words with marks, and gathers what stands outside the code.
type lister struct {
	words  []string
	marks  int
	heads  []string
	loops  []impl.Cert
	consts *[]uint32
}

func (l *lister) mark() string {
	l.marks++
	return fmt.Sprint("m", l.marks)
}

func (l *lister) say(format string, values ...any) {
	l.words = append(l.words, fmt.Sprintf(format, values...))
}

func (l *lister) list(list []impl.Stmt, level int64) {
	for _, s := range list {
		switch s.Kind {
		case impl.StAssign:
			l.say("load:2:%d load:2:%d add:3 store:2:%d", s.A, s.B, s.A)
		case impl.StIf:
			other, behind := l.mark(), l.mark()
			l.say("load:2:%d load:2:%d less:3 z@%s", s.A, s.B, other)
			l.list(s.Body, level)
			l.say("j@%s @%s", behind, other)
			l.list(s.Else, level)
			l.say("@%s", behind)
		case impl.StLoop:
			head, behind := l.mark(), l.mark()
			if !slices.Contains(*l.consts, uint32(s.B)) {
				*l.consts = append(*l.consts, uint32(s.B))
			}
			l.say("const:%d storelocal:%d @%s guard:%d:@%s", slices.Index(*l.consts, uint32(s.B)), level, head, level, behind)
			l.heads = append(l.heads, head)
			l.loops = append(l.loops, impl.Cert{Counter: level, Init: uint32(s.B)})
			l.list(s.Body, level+1)
			l.say("j@%s @%s", head, behind)
		case impl.StCall:
			l.say("call:%d", s.A+1)
		}
	}
}

// callsIn are the helpers that a list calls.
func callsIn(list []impl.Stmt) []int64 {
	var calls []int64
	for _, s := range list {
		if s.Kind == impl.StCall {
			calls = append(calls, s.A)
		}
		calls = append(append(calls, callsIn(s.Body)...), callsIn(s.Else)...)
	}
	return calls
}

// wantedBar: does anything bar the lists themselves from being compiled?
func wantedBar(list []impl.Stmt, helpers [][]impl.Stmt) bool {
	bad := wantedStmtFault(list) != 0 || len(helpers) > 8
	for _, k := range callsIn(list) {
		bad = bad || k >= int64(len(helpers))
	}
	for own, helper := range helpers {
		bad = bad || wantedStmtFault(helper) != 0
		for _, k := range callsIn(helper) {
			bad = bad || k <= int64(own) || k >= int64(len(helpers))
		}
	}
	return bad
}

// wantedProgram is what lists become, as the document tells it.
func wantedProgram(list []impl.Stmt, helpers [][]impl.Stmt) impl.Program {
	if wantedBar(list, helpers) {
		return impl.Program{}
	}
	p := impl.Program{Regions: [][]int64{nil, nil, {3, 3, 3, 3, 3, 3, 3, 3}}}
	var consts []uint32
	for number, own := range append([][]impl.Stmt{list}, helpers...) {
		l := &lister{consts: &consts}
		l.list(own, 0)
		code, places := marked(strings.Join(append(l.words, "r"), " "))
		_, _, levels := measureOf(own)
		p.Funcs = append(p.Funcs, impl.Func{Locals: slices.Repeat([]int64{3}, levels), Code: code})
		for n, c := range l.loops {
			c.Func, c.Head = int64(number), places[l.heads[n]]
			p.Certs = append(p.Certs, c)
		}
	}
	for _, word := range consts {
		p.Consts = append(p.Consts, impl.Const{Type: 3, Word: word})
	}
	// Of all that may be too much only loops can be: of certificates there may be as many as of constants.
	if len(p.Certs) > 64 {
		return impl.Program{}
	}
	return p
}

// checkCompile: the program is what is wanted; it is told.
func checkCompile(t *testing.T, what string, list []impl.Stmt, helpers [][]impl.Stmt) impl.Program {
	t.Helper()
	got, want := impl.Compile(list, helpers), wantedProgram(list, helpers)
	if !sameAnswers(got, want) {
		t.Fatalf("%s: %+v, not %+v", what, got, want)
	}
	if len(got.Funcs) > 0 && impl.ProgramFault(got) != 0 {
		t.Fatalf("%s: the program has the fault %d", what, impl.ProgramFault(got))
	}
	return got
}

// compiled reads the list and its helpers from texts, and compiles them.
func compiled(t *testing.T, texts ...string) impl.Program {
	t.Helper()
	list, helpers := listsOf(texts...)
	return checkCompile(t, strings.Join(texts, "; "), list, helpers)
}

func listsOf(texts ...string) ([]impl.Stmt, [][]impl.Stmt) {
	var helpers [][]impl.Stmt
	for _, text := range texts[1:] {
		helpers = append(helpers, stmts(text))
	}
	return stmts(texts[0]), helpers
}

// certsText is like 0:2:0:5 1:..: function, head, counter, first value.
func certsText(p impl.Program) string {
	var words []string
	for _, c := range p.Certs {
		words = append(words, fmt.Sprintf("%d:%d:%d:%d", c.Func, c.Head, c.Counter, c.Init))
	}
	return strings.Join(words, " ")
}

func constsText(p impl.Program) string {
	var words []string
	for _, c := range p.Consts {
		words = append(words, impl.TypeName(c.Type)+fmt.Sprint(c.Word))
	}
	return strings.Join(words, " ")
}

func localCounts(p impl.Program) string {
	var counts []string
	for _, f := range p.Funcs {
		counts = append(counts, fmt.Sprint(len(f.Locals)))
	}
	return strings.Join(counts, " ")
}

// compileCase is a list, and what it becomes, by hand.
type compileCase struct {
	text  string
	code  string
	certs string
}

func compileCases() []compileCase {
	return []compileCase{
		{"", "r", ""},
		{"0+1", "load:2:0 load:2:1 add:3 store:2:0 r", ""},
		{"7+0", "load:2:7 load:2:0 add:3 store:2:7 r", ""},
		{"3+3", "load:2:3 load:2:3 add:3 store:2:3 r", ""},
		{"0+1 2+3", "load:2:0 load:2:1 add:3 store:2:0 load:2:2 load:2:3 add:3 store:2:2 r", ""},
		{"1<2[]", "load:2:1 load:2:2 less:3 z5 j5 r", ""},
		{"1<2[0+3]", "load:2:1 load:2:2 less:3 z9 load:2:0 load:2:3 add:3 store:2:0 j9 r", ""},
		{"6<5[|4+3]", "load:2:6 load:2:5 less:3 z5 j9 load:2:4 load:2:3 add:3 store:2:4 r", ""},
		{"0<7[1+2|3+4]", "load:2:0 load:2:7 less:3 z9 load:2:1 load:2:2 add:3 store:2:1 j13 load:2:3 load:2:4 add:3 store:2:3 r", ""},
		{"0<0[] 1+1", "load:2:0 load:2:0 less:3 z5 j5 load:2:1 load:2:1 add:3 store:2:1 r", ""},
		{"0<1[2<3[]|4<5[]]", "load:2:0 load:2:1 less:3 z10 load:2:2 load:2:3 less:3 z9 j9 j15 load:2:4 load:2:5 less:3 z15 j15 r", ""},
		{"5*[]", "const:0 storelocal:0 guard:0:4 j2 r", "0:2:0:5"},
		{"0*[]", "const:0 storelocal:0 guard:0:4 j2 r", "0:2:0:0"},
		{"255*[0+1]", "const:0 storelocal:0 guard:0:8 load:2:0 load:2:1 add:3 store:2:0 j2 r", "0:2:0:255"},
		{"1*[] 2*[]", "const:0 storelocal:0 guard:0:4 j2 const:1 storelocal:0 guard:0:8 j6 r", "0:2:0:1 0:6:0:2"},
		{"4*[4*[]]", "const:0 storelocal:0 guard:0:8 const:0 storelocal:1 guard:1:7 j5 j2 r", "0:2:0:4 0:5:1:4"},
		{"3*[2*[] 1*[9*[]]]", "const:0 storelocal:0 guard:0:16 const:1 storelocal:1 guard:1:7 j5 const:2 storelocal:1 guard:1:15 const:3 storelocal:2 guard:2:14 j12 j9 j2 r", "0:2:0:3 0:5:1:2 0:9:1:1 0:12:2:9"},
		{"3*[0<1[2*[]|4*[]]]", "const:0 storelocal:0 guard:0:17 load:2:0 load:2:1 less:3 z12 const:1 storelocal:1 guard:1:11 j9 j16 const:2 storelocal:1 guard:1:16 j14 j2 r", "0:2:0:3 0:9:1:2 0:14:1:4"},
		{"0<1[2*[]|]", "load:2:0 load:2:1 less:3 z9 const:0 storelocal:0 guard:0:8 j6 j9 r", "0:6:0:2"},
		{"@0", "call:1 r", ""},
		{"@2 @0 @2", "call:3 call:1 call:3 r", ""},
		{"2*[@1 0<1[@0|@2]]", "const:0 storelocal:0 guard:0:12 call:2 load:2:0 load:2:1 less:3 z10 call:1 j11 call:3 j2 r", "0:2:0:2"},
	}
}

// What each kind becomes, instruction by instruction, as the list and as a helper.
func TestCompiledCode(t *testing.T) {
	for _, x := range compileCases() {
		p := compiled(t, x.text, "", "", "")
		if !slices.Equal(p.Funcs[0].Code, worded(x.code)) || certsText(p) != x.certs {
			t.Errorf("%s: %v and %s", x.text, p.Funcs[0].Code, certsText(p))
		}
		for n := 1; n < 4; n++ {
			if f := p.Funcs[n]; len(p.Funcs) != 4 || !slices.Equal(f.Code, worded("r")) || len(f.Locals) != 0 {
				t.Errorf("%s: helper %d is %+v", x.text, n-1, f)
			}
		}
		if strings.Contains(x.text, "@") {
			continue
		}
		p = compiled(t, "", "", "", "", "", x.text, "")
		want := ""
		if x.certs != "" {
			want = "5" + strings.ReplaceAll(x.certs, " 0:", " 5:")[1:]
		}
		if len(p.Funcs) != 7 || !slices.Equal(p.Funcs[5].Code, worded(x.code)) || certsText(p) != want {
			t.Errorf("%s as helper 4: %v and %s", x.text, p.Funcs[5].Code, certsText(p))
		}
	}
}

// A call of a helper is one of the function behind its number.
func TestCompiledCalls(t *testing.T) {
	p := compiled(t, "@7 @0", "@1 @7", "@2", "@3", "@4 @4", "@5", "@6", "@7", "0+1")
	for f, want := range []string{"call:8 call:1 r", "call:2 call:8 r", "call:3 r", "call:4 r", "call:5 call:5 r", "call:6 r", "call:7 r", "call:8 r", "load:2:0 load:2:1 add:3 store:2:0 r"} {
		if !slices.Equal(p.Funcs[f].Code, worded(want)) {
			t.Errorf("function %d: %v", f, p.Funcs[f].Code)
		}
	}
	if len(p.Funcs) != 9 || len(p.Certs) != 0 || len(p.Consts) != 0 {
		t.Error(len(p.Funcs), p.Certs, p.Consts)
	}
}

// What all have: regions, functions without parameters and results.
func TestCompiledFrame(t *testing.T) {
	for _, texts := range [][]string{{""}, {"0+1"}, {"5*[]", "3*[2*[]]"}, {"", "", "", "", "", "", "", "", ""}, {"@0", "1<2[3+4|5+6]"}} {
		p := compiled(t, texts...)
		if len(p.Regions) != 3 || len(p.Regions[0]) != 0 || len(p.Regions[1]) != 0 || !slices.Equal(p.Regions[2], []int64{3, 3, 3, 3, 3, 3, 3, 3}) || len(p.Funcs) != len(texts) {
			t.Errorf("%q: %+v", texts, p)
		}
		for _, f := range p.Funcs {
			if len(f.Params) != 0 || f.Result != 0 {
				t.Errorf("%q: %+v", texts, f)
			}
			for _, local := range f.Locals {
				if local != impl.TypeUint {
					t.Errorf("%q: %+v", texts, f)
				}
			}
		}
	}
}

// Each once, in the order in which they are needed: a loop's own ahead of those within it, the list's ahead of the helpers', and these by number, whoever calls them.
func TestCompiledConstants(t *testing.T) {
	for _, x := range []struct {
		want  string
		texts []string
	}{
		{"", []string{"0+1 2<3[]"}},
		{"uint0", []string{"0*[]"}},
		{"uint255", []string{"255*[255*[255*[]]]"}},
		{"uint1 uint0", []string{"1*[0*[]]"}},
		{"uint9 uint3 uint4", []string{"9*[3*[]] 3*[4*[9*[]]]"}},
		{"uint7 uint2 uint5 uint1", []string{"0<1[7*[] 2*[]|7*[] 5*[]] 1*[] 2*[]"}},
		{"uint4 uint6 uint0", []string{"", "4*[6*[]]", "6*[0*[4*[]]]"}},
		{"uint3 uint8 uint1 uint2", []string{"3*[@1] @0", "8*[3*[]]", "1*[8*[2*[]]]"}},
		{"uint5 uint4 uint3 uint2 uint1", []string{"@2", "5*[]", "4*[]", "3*[2*[5*[]]] 1*[]"}},
		{"uint10 uint255 uint100", []string{"10*[] 255*[]", "", "", "255*[] 100*[10*[]]"}},
	} {
		if p := compiled(t, x.texts...); constsText(p) != x.want {
			t.Errorf("%q: %s, not %s", x.texts, constsText(p), x.want)
		}
	}
}

// One for each level of loops of the function itself.
func TestCompiledLocals(t *testing.T) {
	for _, x := range []struct {
		want  string
		texts []string
	}{
		{"0", []string{""}},
		{"0", []string{"0+1 1<2[3+4|5+6]"}},
		{"1", []string{"3*[]"}},
		{"1", []string{"3*[] 4*[] 5*[]"}},
		{"2", []string{"3*[] 4*[5*[]] 5*[]"}},
		{"3", []string{"0<1[|2*[3<4[5*[1*[]]]]]"}},
		{"2", []string{"0<1[2*[]|2*[2*[]]]"}},
		{"1 2", []string{"3*[@0]", "1*[2*[]]"}},
		{"0 3 0 1", []string{"@0", "1*[2*[3*[]]]", "@2", "0*[]"}},
		{"8 8 8", []string{nestText(8, "@0"), nestText(8, "@1"), nestText(8, "")}},
		{"0 1 2 3 4 5 6 7 8", []string{"", nestText(1, ""), nestText(2, ""), nestText(3, ""), nestText(4, ""), nestText(5, ""), nestText(6, ""), nestText(7, ""), nestText(8, "")}},
	} {
		if p := compiled(t, x.texts...); localCounts(p) != x.want {
			t.Errorf("%q: %s, not %s", x.texts, localCounts(p), x.want)
		}
	}
}

// nestText is a text within so many loops of two turns.
func nestText(levels int, inner string) string {
	return strings.Repeat("2*[", levels) + inner + strings.Repeat("]", levels)
}

func TestCompiledCertificates(t *testing.T) {
	for _, x := range []struct {
		want  string
		texts []string
	}{
		{"", []string{"0+1"}},
		{"0:2:0:0 0:6:0:255", []string{"0*[] 255*[]"}},
		{"0:2:0:3 0:5:1:2 0:8:2:1", []string{"3*[2*[1*[]]]"}},
		{"0:6:0:3 1:2:0:4 1:5:1:5 3:7:0:6", []string{"0+1 3*[]", "4*[5*[]]", "", "1<2[]6*[]"}},
		{"0:2:0:2 0:5:1:2 0:8:2:2 0:11:3:2 0:14:4:2 0:17:5:2 0:20:6:2 0:23:7:2", []string{nestText(8, "")}},
		{"2:3:0:9", []string{"@1", "@1", "@2 9*[]", "0+0"}},
	} {
		p := compiled(t, x.texts...)
		if certsText(p) != x.want {
			t.Errorf("%q: %s, not %s", x.texts, certsText(p), x.want)
		}
		for _, c := range p.Certs {
			code := p.Funcs[c.Func].Code
			if code[c.Head].Op != impl.OpGuard || code[c.Head].A != c.Counter || code[c.Head-1] != instr(impl.OpStoreLocal, c.Counter) || p.Consts[code[c.Head-2].A].Word != c.Init {
				t.Errorf("%q: %+v does not stand at a loop", x.texts, c)
			}
		}
	}
}

// checkNothing: the program is the zero value, by what was worked out too.
func checkNothing(t *testing.T, what string, list []impl.Stmt, helpers [][]impl.Stmt) {
	t.Helper()
	if p := checkCompile(t, what, list, helpers); p.Regions != nil || p.Consts != nil || p.Funcs != nil || p.Certs != nil {
		t.Errorf("%s is compiled: %+v", what, p)
	}
}

func TestCompileOfFaultyLists(t *testing.T) {
	faulty := [][]impl.Stmt{countings()["flat"](61), nestLoops(9, nil), countings()["in elses"](1000)}
	for _, s := range wrongStmts() {
		for _, stand := range standings() {
			faulty = append(faulty, stand([]impl.Stmt{s}))
		}
	}
	for n, list := range faulty {
		checkNothing(t, fmt.Sprint("list ", n), list, make([][]impl.Stmt, 8))
		for helper := range 8 {
			helpers := make([][]impl.Stmt, 8)
			helpers[helper] = list
			checkNothing(t, fmt.Sprint("helper ", helper, " by list ", n), nil, helpers)
			checkNothing(t, fmt.Sprint("the last of ", helper+1, " by list ", n), stmts("0+1"), helpers[:helper+1])
		}
	}
	// Just not faulty: at the edges all is compiled.
	for what, list := range map[string][]impl.Stmt{"sixty": slices.Repeat(stmts("0+1"), 60), "eight levels": nestLoops(8, stmts("0+1"))} {
		if p := checkCompile(t, what, list, [][]impl.Stmt{list, list}); len(p.Funcs) != 3 {
			t.Error(what, "are not compiled")
		}
	}
}

func TestCompileOfManyHelpers(t *testing.T) {
	for count := 0; count <= 20; count++ {
		helpers := slices.Repeat([][]impl.Stmt{stmts("0+1")}, count)
		if count > 8 {
			checkNothing(t, fmt.Sprint(count, " helpers"), nil, helpers)
			checkNothing(t, fmt.Sprint(count, " empty helpers"), stmts("0+1"), make([][]impl.Stmt, count))
			continue
		}
		if p := checkCompile(t, fmt.Sprint(count, " helpers"), nil, helpers); len(p.Funcs) != 1+count {
			t.Error(count, "helpers:", p)
		}
	}
	checkNothing(t, "very many helpers", nil, make([][]impl.Stmt, 100000))
}

// Each helper that calls each other one, itself or one that there is not, from each place of its list.
func TestCompileOfCalls(t *testing.T) {
	for count := 0; count <= 8; count++ {
		for own := -1; own < count; own++ {
			for to := range 8 {
				call := []impl.Stmt{{Kind: impl.StCall, A: int64(to)}}
				for what, stand := range standings() {
					what = fmt.Sprintf("of %d helpers %d calls %d, %s", count, own, to, what)
					helpers := make([][]impl.Stmt, count)
					list := stmts("0+1")
					// The calls of what stands around would tell of themselves.
					around := withoutCalls(stand(call), int64(to))
					if own < 0 {
						list = around
					} else {
						helpers[own] = around
					}
					if to > own && to < count {
						if p := checkCompile(t, what, list, helpers); len(p.Funcs) != 1+count {
							t.Error(what, "is not compiled")
						}
					} else {
						checkNothing(t, what, list, helpers)
					}
				}
			}
		}
	}
	for _, texts := range [][]string{{"@0"}, {"", "@0"}, {"", "", "@1"}, {"", "", "@0"}, {"", "@1"}, {"@1", "@1", "@0"}, {"@0", "@1", "@2", "@1"}, {"@7", "", "", "", "", "", "", ""}} {
		list, helpers := listsOf(texts...)
		checkNothing(t, fmt.Sprintf("%q", texts), list, helpers)
	}
}

// withoutCalls leaves of the calls those of this helper; the others become assignments.
func withoutCalls(list []impl.Stmt, but int64) []impl.Stmt {
	list = copyOf(list)
	for n := range list {
		if list[n].Kind == impl.StCall && list[n].A != but {
			list[n] = impl.Stmt{Kind: impl.StAssign, A: 1}
		}
		list[n].Body, list[n].Else = withoutCalls(list[n].Body, but), withoutCalls(list[n].Else, but)
	}
	return list
}

// Of loops there may be just as many as of certificates, over the list and the helpers; then what comes out has a fault.
func TestCompileOfManyLoops(t *testing.T) {
	loops := func(count int, first int) []impl.Stmt {
		var list []impl.Stmt
		for n := range count {
			list = append(list, impl.Stmt{Kind: impl.StLoop, B: int64((first + n) % 256)})
		}
		return list
	}
	for _, x := range []struct {
		what    string
		list    []impl.Stmt
		helpers [][]impl.Stmt
	}{
		{"60 and 4", loops(60, 0), [][]impl.Stmt{loops(4, 60)}},
		{"4 and 60", loops(4, 100), [][]impl.Stmt{loops(60, 150)}},
		{"32 and 32", loops(32, 0), [][]impl.Stmt{loops(32, 0)}},
		{"of one number", slices.Repeat(loops(1, 7), 30), [][]impl.Stmt{slices.Repeat(loops(1, 7), 34)}},
		{"8 by 8", nil, [][]impl.Stmt{loops(8, 0), loops(8, 8), loops(8, 16), loops(8, 24), loops(8, 32), loops(8, 40), loops(8, 48), loops(8, 200)}},
		{"8 levels by 8", nil, slices.Repeat([][]impl.Stmt{nestLoops(8, nil)}, 8)},
	} {
		p := checkCompile(t, x.what, x.list, x.helpers)
		if len(p.Certs) != 64 || len(p.Consts) > 64 {
			t.Errorf("%s: %+v", x.what, p)
		}
		checkNothing(t, x.what+" and one", append(copyOf(x.list), loops(1, 3)...), x.helpers)
		more := copyOf(x.helpers)
		more[len(more)-1] = append(more[len(more)-1], impl.Stmt{Kind: impl.StIf, Else: loops(1, 255)})
		checkNothing(t, x.what+" and one in a helper", x.list, more)
	}
	checkNothing(t, "as many as there can be", loops(60, 0), [][]impl.Stmt{loops(60, 0), loops(60, 0), loops(60, 0), loops(60, 0), loops(60, 60), loops(60, 120), loops(60, 180), loops(60, 240)})
	// The longest code of all has no fault.
	long := slices.Repeat(stmts("0<1[]"), 60)
	if p := checkCompile(t, "long", long, slices.Repeat([][]impl.Stmt{long}, 8)); len(p.Funcs) != 9 || len(p.Funcs[8].Code) != 301 {
		t.Error("long:", len(p.Funcs))
	}
}

// All lists of up to three statements out of these, alone and within each other.
func TestCompileOfAllShortLists(t *testing.T) {
	t.Parallel()
	passed := 0
	leaves := []string{"", "0+1", "@0", "@1", "0*[]", "3*[]", "1<2[]"}
	wraps := []string{"%s %s", "2*[%s] %s", "2*[%s %s]", "0<1[%s|%s]", "2*[0<1[%s|%s]]", "3*[%s 3*[%s]]", "0<1[|%s %s]", "3*[%s] 3*[%s]"}
	for _, a := range leaves {
		for _, b := range leaves {
			for _, wrap := range wraps {
				for _, outer := range wraps {
					inner := fmt.Sprintf(wrap, a, b)
					p := compiled(t, fmt.Sprintf(outer, inner, a), "5+5", "5*[6+6]")
					if r := impl.Check(p); r.Code != 0 {
						t.Fatalf("%s in %s: %s", inner, outer, loadText(r))
					}
					passed++
				}
			}
		}
	}
	if passed != 49*64 {
		t.Error(passed)
	}
}

package tests

import (
	"fmt"
	"math"
	"slices"
	"strconv"
	"strings"
	"testing"

	"loop.example/s02548/impl"
)

// marked reads code as worded does; the word @a marks the place of the next instruction, and within other words stands for its number.
func marked(text string) ([]impl.Instr, map[string]int64) {
	places := map[string]int64{}
	var words []string
	for _, word := range strings.Fields(text) {
		if mark, is := strings.CutPrefix(word, "@"); is {
			places[mark] = int64(len(words))
		} else {
			words = append(words, word)
		}
	}
	for n, word := range words {
		if before, mark, is := strings.Cut(word, "@"); is {
			words[n] = before + strconv.FormatInt(places[mark], 10)
		}
	}
	return worded(strings.Join(words, " ")), places
}

// certified is a program whose function 1 has this marked code, and certificates like h:3:6: a mark, a counter and its first number. Its locals 1 (a parameter), 3, 5, 6, 7 are of uint; u is a 6.
func certified(text string, certs ...string) impl.Program {
	p := workshop(instr(impl.OpNop))
	for _, word := range []uint32{0, 1, 2, 5, 6, 7, 1000, math.MaxUint32} {
		p.Consts = append(p.Consts, impl.Const{Type: impl.TypeUint, Word: word})
	}
	p.Consts = append(p.Consts, impl.Const{Type: impl.TypeInt, Word: 6})
	p.Funcs[0].Locals = []int64{1, 3, 1, 3}
	p.Funcs[0].Code, p.Funcs[2].Code = manyNops(50), manyNops(50)
	code, places := marked(text)
	p.Funcs[1].Result, p.Funcs[1].Locals, p.Funcs[1].Code = 0, []int64{1, 3, 2, 3, 3, 3}, code
	for _, cert := range certs {
		parts := strings.Split(cert, ":")
		counter, _ := strconv.ParseInt(parts[1], 10, 64)
		init, _ := strconv.ParseUint(parts[2], 10, 32)
		p.Certs = append(p.Certs, impl.Cert{Func: 1, Head: places[parts[0]], Counter: counter, Init: uint32(init)})
	}
	slices.SortFunc(p.Certs, func(a, b impl.Cert) int { return int(a.Head - b.Head) })
	return p
}

// loopFrom is the loop of a function whose head begins at this place.
func loopFrom(t *testing.T, p impl.Program, f int64, place int64) impl.Loop {
	t.Helper()
	flow := impl.FlowOf(p.Funcs[f].Code)
	for _, l := range flow.Loops {
		if flow.Blocks[l.Head].First == place {
			return l
		}
	}
	t.Fatalf("of %s: no loop from %d on; code %d at %d", textOf(p.Funcs[f].Code), place, flow.Code, flow.At)
	return impl.Loop{}
}

func wantedLoopFault(p impl.Program, number int64, l impl.Loop) int64 {
	if impl.ProgramFault(p) != 0 || !within(number, len(p.Funcs)) {
		return 7
	}
	f := p.Funcs[number]
	flow := wantedFlow(f.Code)
	if !slices.ContainsFunc(flow.Loops, func(own impl.Loop) bool { return sameAnswers(own, l) }) {
		return 7
	}
	in := make([]bool, len(f.Code))
	for _, b := range l.Blocks {
		for at := flow.Blocks[b].First; at <= flow.Blocks[b].Last; at++ {
			in[at] = true
		}
	}
	for _, c := range p.Certs {
		if c.Func == number && c.Head == flow.Blocks[l.Head].First {
			return wantedCertFault(p, f, flow.Blocks, in, c)
		}
	}
	return 1
}

// wantedCertFault: of a certificate of the loop that has these instructions.
func wantedCertFault(p impl.Program, f impl.Func, blocks []impl.Block, in []bool, c impl.Cert) int64 {
	guard := f.Code[c.Head]
	if guard.Op != impl.OpGuard || guard.A != c.Counter {
		return 2
	}
	if in[guard.C] {
		return 3
	}
	for at, i := range f.Code {
		if in[at] && int64(at) != c.Head && (i.Op == impl.OpStoreLocal || i.Op == impl.OpGuard) && i.A == c.Counter {
			return 4
		}
	}
	for _, b := range blocks {
		last := f.Code[b.Last]
		if in[b.First] || !slices.Contains(placesBehind(last, int(b.Last)), int(c.Head)) {
			continue
		}
		end := b.Last
		if last.Op == impl.OpJump {
			end--
		}
		if end-1 < b.First || f.Code[end] != instr(impl.OpStoreLocal, c.Counter) || f.Code[end-1].Op != impl.OpConst {
			return 5
		}
		if k := p.Consts[f.Code[end-1].A]; k.Type != impl.TypeUint || k.Word != c.Init {
			return 5
		}
	}
	if c.Head == 0 {
		return 5
	}
	return 0
}

// checkLoopFault: the loop of function 1 that is marked h has this fault.
func checkLoopFault(t *testing.T, want int64, text string, certs ...string) {
	t.Helper()
	p := certified(text, certs...)
	_, places := marked(text)
	l := loopFrom(t, p, 1, places["h"])
	got, model := impl.LoopFault(p, 1, l), wantedLoopFault(p, 1, l)
	if got != want || model != want {
		t.Errorf("of %s with %v: fault %d, not %d (the model: %d)", text, certs, got, want, model)
	}
}

func TestLoopsWithoutAFault(t *testing.T) {
	for _, x := range []struct{ text, cert string }{
		{"u storelocal:3 @h guard:3:@o j@h @o r", "h:3:6"},
		{"u storelocal:3 @h guard:3:@o n j@h @o r", "h:3:6"},
		{"u storelocal:3 @h guard:3:@o n b z@h n j@h @o r", "h:3:6"},
		// Another constant of the same word; the least and the greatest one.
		{"const:7 storelocal:3 @h guard:3:@o j@h @o r", "h:3:6"},
		{"const:3 storelocal:3 @h guard:3:@o j@h @o r", "h:3:0"},
		{"const:10 storelocal:3 @h guard:3:@o j@h @o r", "h:3:4294967295"},
		// The counter is a parameter, or the last local.
		{"u storelocal:1 @h guard:1:@o n j@h @o r", "h:1:6"},
		{"u storelocal:7 @h guard:7:@o n j@h @o r", "h:7:6"},
		// The guard names what stands ahead of the loop, or what goes on to an outer one.
		{"j@e @o r @e u storelocal:3 @h guard:3:@o n j@h", "h:3:6"},
		{"n @a b z@e r @e u storelocal:3 @h guard:3:@a n j@h", "h:3:6"},
		// Other ways out; the block that goes back ends with a jumpzero or falls to the head.
		{"u storelocal:3 @h guard:3:@o n b z@q j@h @o r @q r", "h:3:6"},
		{"u storelocal:3 @h guard:3:@o n b z@h @o r", "h:3:6"},
		{"u storelocal:3 j@h @a n @h guard:3:@o j@a @o r", "h:3:6"},
		// The counter is read in the loop, and written and read outside.
		{"u storelocal:3 @h guard:3:@o loadlocal:3 x j@h @o u storelocal:3 guard:3:@q @q r", "h:3:6"},
		{"guard:3:@a @a u storelocal:3 @h guard:3:@o loadlocal:3 x j@h @o r", "h:3:6"},
	} {
		checkLoopFault(t, 0, x.text, x.cert)
	}
}

func TestLoopsWithoutACertificate(t *testing.T) {
	text := "n u storelocal:3 @h guard:3:@o @a n @b j@h @o r"
	checkLoopFault(t, 0, text, "h:3:6")
	checkLoopFault(t, 1, text)
	for _, mark := range []string{"a", "b", "o"} {
		checkLoopFault(t, 1, text, mark+":3:6")
		checkLoopFault(t, 0, text, mark+":3:6", "h:3:6")
	}
	checkLoopFault(t, 1, text, "a:3:6", "b:3:6", "o:3:6")
	p := certified(text, "h:3:6")
	l := loopFrom(t, p, 1, 3)
	for place := range int64(len(p.Funcs[1].Code)) {
		for f := range int64(3) {
			p.Certs[0].Func, p.Certs[0].Head = f, place
			want := int64(1)
			if f == 1 && place == 3 {
				want = 0
			}
			if got := impl.LoopFault(p, 1, l); got != want || wantedLoopFault(p, 1, l) != want {
				t.Errorf("with a certificate of %d in function %d: %d", place, f, got)
			}
		}
	}
	// Among certificates of the same place in the functions beside it each function has its own.
	p.Certs = []impl.Cert{{Func: 0, Head: 3, Counter: 3, Init: 5}, {Func: 1, Head: 3, Counter: 3, Init: 6}, {Func: 2, Head: 3, Counter: 3, Init: 7}}
	if got := impl.LoopFault(p, 1, l); got != 0 {
		t.Error("with those of others beside it:", got)
	}
	p.Certs[0].Init, p.Certs[1].Init, p.Certs[2].Init = 6, 5, 6
	if got := impl.LoopFault(p, 1, l); got != 5 {
		t.Error("with good ones of others beside it:", got)
	}
}

func TestLoopsWithoutAGuard(t *testing.T) {
	base := certified("u storelocal:3 @h n b z@o n j@h @o r", "h:3:6")
	seen := 0
	for _, c := range stepCases() {
		i, p := c.i, copyOf(base)
		if named(i) {
			i.C = 3
		}
		p.Funcs[1].Code[2] = i
		seen++
		if got := impl.LoopFault(p, 1, loopFrom(t, p, 1, 2)); got != 2 {
			t.Errorf("%s as head: %d", c.name, got)
		}
	}
	if seen < 80 {
		t.Error("instructions", seen)
	}
	// A guard of another local, the first one's and the constant's number among them.
	for counter := range 8 {
		want := int64(2)
		if counter == 3 {
			want = 0
		}
		text := fmt.Sprintf("u storelocal:3 @h guard:%d:@o n j@h @o r", counter)
		checkLoopFault(t, want, text, "h:3:6")
		if slices.Contains([]int{1, 5, 6, 7}, counter) {
			checkLoopFault(t, 5, text, fmt.Sprintf("h:%d:6", counter))
		}
	}
	// The guard stands behind the head's first instruction, or ahead of the loop.
	checkLoopFault(t, 2, "u storelocal:3 @h n guard:3:@o n j@h @o r", "h:3:6")
	checkLoopFault(t, 2, "u storelocal:3 guard:3:@o @h n b z@h @o r", "h:3:6")
	checkLoopFault(t, 2, "u storelocal:3 @h b z@o guard:3:@o j@h @o r", "h:3:6")
	checkLoopFault(t, 2, "u storelocal:3 @h j@a @a guard:3:@o j@h @o r", "h:3:6")
}

func TestGuardsThatStayInTheLoop(t *testing.T) {
	for _, mark := range "habcdefo" {
		want := int64(3)
		if mark == 'o' {
			want = 0
		}
		text := "n u storelocal:3 @h guard:3:@" + string(mark) + " @a b @b z@d @c n @d b z@o @e n @f j@h @o r"
		checkLoopFault(t, want, text, "h:3:6")
	}
	// The head of a loop that it holds, or behind that one; and out of an inner loop into the outer one.
	for _, mark := range "kbo" {
		want := int64(3)
		if mark == 'o' {
			want = 0
		}
		text := "u storelocal:3 @h guard:3:@" + string(mark) + " u storelocal:5 @k guard:5:@b n j@k @b b z@o j@h @o r"
		checkLoopFault(t, want, text, "h:3:6", "k:5:6")
	}
	for mark, want := range map[string]int64{"h": 3, "a": 3, "b": 0, "k": 0, "o": 0} {
		text := "u storelocal:3 @k guard:3:@o u storelocal:5 @h guard:5:@" + mark + " @a b z@b j@h @b n j@k @o r"
		checkLoopFault(t, want, text, "k:3:6", "h:5:6")
	}
}

// counting has a nop wherever something may be written: ahead of two loops one within the other, in them, and behind.
const counting = "n u storelocal:3 @h guard:3:@o n b z@a n @a n u storelocal:5 @k guard:5:@l n b z@m n @m n j@k @l n b z@h n j@h @o n r"

func TestLoopsThatWriteToTheirCounter(t *testing.T) {
	base := certified(counting, "h:3:6", "k:5:6")
	_, places := marked(counting)
	seen := map[int64]int{}
	for at, i := range base.Funcs[1].Code {
		if i.Op != impl.OpNop {
			continue
		}
		for _, local := range []int64{1, 3, 5, 6} {
			for _, writes := range []impl.Instr{instr(impl.OpStoreLocal, local), instr(impl.OpGuard, local, 0, int64(at)+1)} {
				p := copyOf(base)
				p.Funcs[1].Code[at] = writes
				for mark, end := range map[string]string{"h": "o", "k": "l"} {
					want := int64(0)
					counter := map[string]int64{"h": 3, "k": 5}[mark]
					if local == counter && places[mark] < int64(at) && int64(at) < places[end] {
						want = 4
					}
					l := loopFrom(t, p, 1, places[mark])
					if got := impl.LoopFault(p, 1, l); got != want || wantedLoopFault(p, 1, l) != want {
						t.Errorf("with %+v at %d: the loop %s has the fault %d, not %d", writes, at, mark, got, want)
					}
					seen[want]++
				}
			}
		}
	}
	if seen[0] < 80 || seen[4] < 20 {
		t.Error("seldom:", seen)
	}
	// What reads it, or has the same number and is no local.
	for _, word := range []string{"loadlocal:3", "const:3", "add:3", "not:3", "eq:3", "conv:3:1", "load:0:3", "store:1:3", "call:3", "conv:2:3"} {
		checkLoopFault(t, 0, "u storelocal:3 @h guard:3:@o "+word+" j@h @o r", "h:3:6")
		checkLoopFault(t, 0, "u storelocal:3 @h guard:3:@o b z@a "+word+" @a j@h @o r", "h:3:6")
	}
	for _, word := range []string{"storelocal:3", "guard:3:@a", "guard:3:@h", "guard:3:@o"} {
		checkLoopFault(t, 4, "u storelocal:3 @h guard:3:@o b z@a "+word+" n @a j@h @o r", "h:3:6")
	}
	// An inner loop counts the outer one's counter down: this one is faulty by it, that one not.
	both := "u storelocal:3 @k guard:3:@o u storelocal:3 @h guard:3:@l n j@h @l j@k @o r"
	checkLoopFault(t, 0, both, "h:3:6", "k:3:6")
	checkLoopFault(t, 4, strings.NewReplacer("@k", "@h", "@h", "@k").Replace(both), "h:3:6", "k:3:6")
}

func TestLoopEntries(t *testing.T) {
	for _, x := range []struct {
		entry string
		want  int64
	}{
		// Blocks of one, two and more instructions.
		{"n", 5}, {"u", 5}, {"storelocal:3", 5}, {"j@h", 5}, {"b z@h", 5}, {"guard:5:@h", 5},
		{"u storelocal:3", 0}, {"u storelocal:3 j@h", 0}, {"n u storelocal:3", 0}, {"n n u storelocal:3 j@h", 0},
		{"u j@h", 5}, {"storelocal:3 j@h", 5}, {"n j@h", 5}, {"n n", 5}, {"n n n", 5}, {"n n n j@h", 5},
		// The const is missing, or another one.
		{"n storelocal:3", 5}, {"n storelocal:3 j@h", 5}, {"loadlocal:5 storelocal:3", 5}, {"u n storelocal:3", 5},
		{"u d storelocal:3", 5}, {"load:0:2 storelocal:3", 5}, {"n loadlocal:5 storelocal:3 j@h", 5},
		{"const:3 storelocal:3", 5}, {"const:6 storelocal:3", 5}, {"const:8 storelocal:3", 5}, {"const:10 storelocal:3 j@h", 5},
		{"const:7 storelocal:3", 0}, {"const:11 storelocal:3", 5}, {"const:11 storelocal:3 j@h", 5}, {"i storelocal:3", 5}, {"b storelocal:3", 5},
		// The storelocal is missing, or one of another local.
		{"u n", 5}, {"n u", 5}, {"u x", 5}, {"u loadlocal:3", 5}, {"u n j@h", 5}, {"u store:1:3", 5}, {"u call:3", 5},
		{"u storelocal:5", 5}, {"u storelocal:1", 5}, {"u storelocal:2", 5}, {"u storelocal:7 j@h", 5}, {"u storelocal:0", 5},
		// Something stands behind that is no jump.
		{"u storelocal:3 n", 5}, {"u storelocal:3 n j@h", 5}, {"u storelocal:3 u", 5}, {"u storelocal:3 loadlocal:3", 5},
		{"u storelocal:3 guard:5:@h", 5}, {"u storelocal:3 z@h", 5}, {"u storelocal:3 b z@h", 5}, {"u storelocal:3 call:3", 5},
		{"u storelocal:3 storelocal:3", 5}, {"u storelocal:3 u storelocal:5", 5}, {"u storelocal:3 const:6 storelocal:3", 5},
		{"u storelocal:3 u storelocal:3", 0}, {"const:6 storelocal:3 u storelocal:3", 0}, {"u u storelocal:3", 0}, {"u storelocal:5 u storelocal:3 j@h", 0},
		// Some of it stands in the block ahead.
		{"u j@e @e storelocal:3", 5}, {"u j@e @e storelocal:3 j@h", 5}, {"u storelocal:3 j@e @e j@h", 5}, {"u storelocal:3 j@e @e n", 5},
		{"b z@e u @e storelocal:3", 5}, {"b z@e u @e storelocal:3 j@h", 5}, {"b z@e n @e u storelocal:3 j@h", 0}, {"u guard:5:@e @e storelocal:3", 5},
		// Two ways in.
		{"b z@e u storelocal:3 j@h @e u storelocal:3", 0}, {"b z@e const:7 storelocal:3 j@h @e n u storelocal:3", 0},
		{"b z@e n j@h @e u storelocal:3", 5}, {"b z@e u storelocal:5 j@h @e u storelocal:3", 5}, {"b z@e const:6 storelocal:3 j@h @e u storelocal:3", 5},
		{"b z@e u storelocal:3 j@h @e n", 5}, {"b z@e u storelocal:3 j@h @e u storelocal:5", 5}, {"b z@e u storelocal:3 j@h @e const:11 storelocal:3 j@h", 5},
		{"b z@e n j@h @e n", 5}, {"u storelocal:3 b z@h n u storelocal:3", 5}, {"u storelocal:3 b z@h u storelocal:3 j@h", 5},
		{"b z@e u storelocal:3 b z@e n @e u storelocal:3", 0},
		// Behind another loop, of which the guard leads on to the head or to the entry.
		{"u storelocal:5 @k guard:5:@h n j@k", 5}, {"u storelocal:5 @k guard:5:@e n j@k @e u storelocal:3", 0},
		{"u storelocal:5 @k guard:5:@e n b z@h j@k @e u storelocal:3", 5},
	} {
		checkLoopFault(t, x.want, x.entry+" @h guard:3:@o n j@h @o r", "h:3:6")
		// Within a loop, where the entry is gone through at each turn.
		outer := "u storelocal:6 @g guard:6:@q " + x.entry + " @h guard:3:@o n j@h @o n j@g @q r"
		checkLoopFault(t, x.want, outer, "g:6:6", "h:3:6")
	}
}

// An entry that stands behind its loop, and two that stand on both sides of it.
func TestLoopEntriesFromBehind(t *testing.T) {
	for entry, want := range map[string]int64{"u storelocal:3 j@h": 0, "n u storelocal:3 j@h": 0, "j@h": 5, "u j@h": 5, "storelocal:3 j@h": 5, "u storelocal:5 j@h": 5, "const:11 storelocal:3 j@h": 5, "const:6 storelocal:3 j@h": 5, "u storelocal:3 n j@h": 5} {
		checkLoopFault(t, want, "j@e @h guard:3:@o n j@h @o r @e "+entry, "h:3:6")
		checkLoopFault(t, want, "b z@e u storelocal:3 @h guard:3:@o n j@h @o r @e "+entry, "h:3:6")
		checkLoopFault(t, 5, "b z@e u storelocal:5 @h guard:3:@o n j@h @o r @e "+entry, "h:3:6")
	}
}

// The head is block 0, so that nothing sets the counter when the function begins.
func TestLoopsFromTheStart(t *testing.T) {
	checkLoopFault(t, 5, "@h guard:3:@o j@h @o r", "h:3:6")
	checkLoopFault(t, 5, "@h guard:3:@o n j@h @o r", "h:3:0")
	checkLoopFault(t, 5, "@h guard:1:@o n j@h @o r", "h:1:6")
	checkLoopFault(t, 5, "@h guard:3:@o n b z@h j@h @o r", "h:3:6")
	checkLoopFault(t, 4, "@h guard:3:@o u storelocal:3 j@h @o r", "h:3:6")
	checkLoopFault(t, 3, "@h guard:3:@a @a b z@o j@h @o r", "h:3:6")
	checkLoopFault(t, 2, "@h guard:5:@o j@h @o r", "h:3:6")
	checkLoopFault(t, 1, "@h guard:5:@o j@h @o r", "o:3:6")
	checkLoopFault(t, 0, "n @k guard:3:@o u storelocal:5 @h guard:5:@k n j@h @o r", "k:3:6", "h:5:6")
}

// Each set of faults of one loop: the one that is named first counts.
func TestLoopFaultsAtOnce(t *testing.T) {
	for chosen := range 32 {
		has := func(fault int) bool { return chosen>>(fault-1)&1 == 1 }
		pick := func(fault int, wrong string, right string) string {
			if has(fault) {
				return wrong
			}
			return right
		}
		want := int64(0)
		for fault := 5; fault >= 1; fault-- {
			if has(fault) {
				want = int64(fault)
			}
		}
		text := pick(5, "u storelocal:5", "u storelocal:3") + " @h guard:" + pick(2, "6", "3") + ":" + pick(3, "@a", "@o") +
			" @a n " + pick(4, "storelocal:3", "n") + " b z@o j@h @o r"
		cert := pick(1, "a:3:6", "h:3:6")
		checkLoopFault(t, want, text, cert)
		p := certified(text, cert)
		l := loopFrom(t, p, 1, 2)
		l.Blocks = l.Blocks[1:]
		if got := impl.LoopFault(p, 1, l); got != 7 {
			t.Errorf("of %s: another loop has the fault %d", text, got)
		}
		l = loopFrom(t, p, 1, 2)
		p.Funcs[1].Code = append(p.Funcs[1].Code, ret())
		if got := impl.LoopFault(p, 1, l); got != 7 {
			t.Errorf("of %s with code that is not come to: %d", text, got)
		}
	}
}

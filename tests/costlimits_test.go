package tests

import (
	"fmt"
	"math"
	"testing"

	"loop.example/s02548/impl"
)

func TestCostOfLoopsWithinLoops(t *testing.T) {
	inner := int64(6*5 + 2) // six turns of guard, nop and jump, and the guard at last
	for _, x := range []struct {
		want  int64
		text  string
		certs []string
	}{
		{2 + 2*(2+2+inner+2) + 2 + 2, "const:5 storelocal:3 @h guard:3:@o u storelocal:5 @k guard:5:@l n j@k @l j@h @o r", []string{"h:3:2", "k:5:6"}},
		{2 + 0*(2+2+inner+2) + 2 + 2, "const:3 storelocal:3 @h guard:3:@o u storelocal:5 @k guard:5:@l n j@k @l j@h @o r", []string{"h:3:0", "k:5:6"}},
		{2 + 2*(2+2+2+2) + 2 + 2, "const:5 storelocal:3 @h guard:3:@o const:3 storelocal:5 @k guard:5:@l n j@k @l j@h @o r", []string{"h:3:2", "k:5:0"}},
		// The inner guard leads back to the outer head: the whole inner loop is the end of the way.
		{2 + 2*(2+2+inner) + 2 + 2, "const:5 storelocal:3 @h guard:3:@o u storelocal:5 @k guard:5:@h n j@k @o r", []string{"h:3:2", "k:5:6"}},
		// Two within one, beside one another and on two sides of a branch.
		{2 + 2*(2+2+inner+2+(5*5+2)+2) + 2 + 2, "const:5 storelocal:3 @h guard:3:@o u storelocal:5 @k guard:5:@l n j@k @l const:6 storelocal:5 @m guard:5:@p n j@m @p j@h @o r", []string{"h:3:2", "k:5:6", "m:5:5"}},
		{2 + 2*(2+3+2+inner+2) + 2 + 2, "const:5 storelocal:3 @h guard:3:@o b z@e u storelocal:5 @k guard:5:@p n j@k @e const:6 storelocal:5 @m guard:5:@p n j@m @p j@h @o r", []string{"h:3:2", "k:5:6", "m:5:5"}},
		{2 + 2*(2+3+2+inner+2) + 2 + 2, "const:5 storelocal:3 @h guard:3:@o b z@e const:6 storelocal:5 @k guard:5:@p n j@k @e u storelocal:5 @m guard:5:@p n j@m @p j@h @o r", []string{"h:3:2", "k:5:5", "m:5:6"}},
		// Out of both at once from within the inner one: that way costs all of it.
		{2 + 2*(2+2+(6*(2+3+2)+5)+2) + (2 + 2 + (6*(2+3+2) + 5)) + 2, "const:5 storelocal:3 @h guard:3:@o u storelocal:5 @k guard:5:@l b z@o j@k @l j@h @o r", []string{"h:3:2", "k:5:6"}},
		// From within the inner one back to the outer head.
		{2 + 2*(2+2+(6*(2+3+2)+5)+2) + 2 + 2, "const:5 storelocal:3 @h guard:3:@o u storelocal:5 @k guard:5:@l b z@h j@k @l j@h @o r", []string{"h:3:2", "k:5:6"}},
		// Around the inner one, dearer or cheaper than through it.
		{2 + 2*(2+3+5*8+2) + 2 + 2, "const:5 storelocal:3 @h guard:3:@o b z@e u storelocal:5 @k guard:5:@p n j@k @e div:3 div:3 div:3 div:3 div:3 @p j@h @o r", []string{"h:3:2", "k:5:6"}},
		{2 + 2*(2+3+2+inner+2) + 2 + 2, "const:5 storelocal:3 @h guard:3:@o b z@e u storelocal:5 @k guard:5:@p n j@k @e div:3 div:3 div:3 div:3 n @p j@h @o r", []string{"h:3:2", "k:5:6"}},
		// Two ways into the inner one.
		{2 + 2*(2+3+8+4+inner+2) + 2 + 2, "const:5 storelocal:3 @h guard:3:@o b z@e div:3 u storelocal:5 j@k @e u storelocal:5 @k guard:5:@p n j@k @p j@h @o r", []string{"h:3:2", "k:5:6"}},
		// Three levels.
		{2 + 2*(2+2+(5*(2+2+inner+2)+2)+2) + 2 + 2, "const:5 storelocal:3 @h guard:3:@o const:6 storelocal:5 @k guard:5:@l u storelocal:6 @m guard:6:@p n j@m @p j@k @l j@h @o r", []string{"h:3:2", "k:5:5", "m:6:6"}},
		{2 + 2*(2+2+(5*(2+2+inner)+2)) + 2 + 2, "const:5 storelocal:3 @h guard:3:@o const:6 storelocal:5 @k guard:5:@h u storelocal:6 @m guard:6:@k n j@m @o r", []string{"h:3:2", "k:5:5", "m:6:6"}},
		// From the innermost one out of all three.
		{2 + 2*(2+2+(5*(2+2+(6*(2+3+2)+5)+2)+(2+2+6*(2+3+2)+5))+2) + (2 + 2 + 5*(2+2+(6*(2+3+2)+5)+2) + (2 + 2 + 6*(2+3+2) + 5)) + 2,
			"const:5 storelocal:3 @h guard:3:@o const:6 storelocal:5 @k guard:5:@l u storelocal:6 @m guard:6:@p b z@o j@m @p j@k @l j@h @o r", []string{"h:3:2", "k:5:5", "m:6:6"}},
	} {
		checkCost(t, x.want, nil, x.text, x.certs...)
	}
}

// nest is code of loops in so many levels, each of so many turns (the number of their constant), and what it costs.
func nest(levels int, constant int, turns int64) (string, []string, int64) {
	text, cost := "n", int64(1)
	var certs []string
	counters := []int{1, 3, 5, 6, 7}
	for level := range levels {
		counter := counters[level]
		text = fmt.Sprintf("const:%d storelocal:%d @%da guard:%d:@%db %s j@%da @%db", constant, counter, level, counter, level, text, level, level)
		cost = 2 + turns*(2+cost+2) + 2
		certs = append(certs, fmt.Sprintf("%da:%d:%d", level, counter, turns))
	}
	return text + " r", certs, cost + 2
}

func TestCostOfManyLevels(t *testing.T) {
	for levels := range 6 {
		for constant, turns := range map[int]int64{3: 0, 4: 1, 5: 2, 6: 5, 2: 6, 8: 7, 9: 1000} {
			text, certs, want := nest(levels, constant, turns)
			if want > impl.MaxCost {
				want = -1
			}
			checkCost(t, want, nil, text, certs...)
		}
	}
}

// limitCase is code that calls function 3, which costs x, and maybe function 4, which costs 1000: what it costs, and the greatest number on the way to that, if it is another one.
type limitCase struct {
	name  string
	text  string
	certs []string
	cost  func(x int64) int64
	peak  func(x int64) int64
}

func line(times int64, more int64) func(int64) int64 {
	return func(x int64) int64 { return times*x + more }
}

func limitCases() []limitCase {
	// The loop has Init turns of 2 + inner + 2, all else costs 6 and what a way out has beside the guard.
	looped := func(name string, constant int, init int64, inner string, cost func(int64) int64, peak func(int64) int64, more ...string) limitCase {
		text := fmt.Sprintf("const:%d storelocal:3 @h guard:3:@o %s j@h @o r", constant, inner)
		return limitCase{name, text, append(more, fmt.Sprintf("h:3:%d", init)), cost, peak}
	}
	return []limitCase{
		// The sum of a block: too much by the call, by what stands ahead of it, and by what stands behind.
		{"a block", "call:3 r", nil, line(1, 4+2), nil},
		{"a block with more ahead", "div:3 call:3 r", nil, line(1, 8+4+2), nil},
		{"a block with more behind", "call:3 div:3 r", nil, line(1, 8+4+2), nil},
		{"a block with another call ahead", "call:4 call:3 r", nil, line(1, 1004+4+2), nil},
		{"a block with another call behind", "call:3 call:4 r", nil, line(1, 1004+4+2), nil},
		{"two calls of it", "n call:3 call:3 r", nil, line(2, 1+4+4+2), nil},
		// The sum of a way: the first side, the second one, and by the last block alone.
		{"a way", "b z@a call:3 j@o @a n @o r", nil, line(1, 3+4+2+2), nil},
		{"the other way", "b z@a n j@o @a call:3 @o r", nil, line(1, 3+4+2), nil},
		{"a way to its own return", "b z@a n r @a call:3 r", nil, line(1, 3+4+2), nil},
		{"the other way to its own return", "b z@a call:3 r @a n r", nil, line(1, 3+4+2), nil},
		{"a way in many blocks", "b z@a @a b z@c call:3 b z@d div:3 @d n @c div:3 r", nil, line(1, 3+3+7+8+1+10), nil},
		{"two blocks of a way", "b z@a @a call:3 j@c @c call:3 r", nil, line(2, 3+6+6), nil},
		// The sum of a way within a loop that is never gone round.
		looped("a turn of none", 3, 0, "call:3", line(0, 6), line(1, 2+4+2)),
		looped("a turn of none in many blocks", 3, 0, "call:3 b z@a div:3 @a", line(0, 6), line(1, 2+7+8+2)),
		looped("a turn of none with another way back", 3, 0, "b z@h call:3", line(0, 6), line(1, 2+3+6)),
		looped("a turn of none with another way out", 3, 0, "b z@o call:3", line(0, 6+3), line(1, 2+3+6)),
		// Init * P, and what is added to it.
		looped("one turn", 4, 1, "call:3", line(1, 8+6), nil),
		looped("two turns", 5, 2, "call:3", line(2, 2*8+6), nil),
		looped("six turns", 2, 6, "call:3", line(6, 6*8+6), nil),
		looped("a thousand turns", 9, 1000, "call:3", line(1000, 1000*8+6), nil),
		looped("one turn and a dear way out", 4, 1, "call:3 b z@o", line(2, 2+7+2+2+2+7+2), nil),
		looped("a thousand turns and a dear way out", 9, 1000, "call:3 b z@o", line(1001, 1000*(2+7+2)+2+2+7+2), nil),
		looped("many turns", 12, 1<<20, "call:3", line(1<<20, 8<<20+6), nil),
		// Loops within loops, gone round and not.
		looped("two times six turns", 5, 2, "u storelocal:5 @k guard:5:@l call:3 j@k @l", line(12, 2*(2+2+6*8+2+2)+6), nil, "k:5:6"),
		looped("no turn of six", 3, 0, "u storelocal:5 @k guard:5:@l call:3 j@k @l", line(0, 6), line(6, 2+2+6*8+2+2), "k:5:6"),
		looped("six turns of none", 2, 6, "const:3 storelocal:5 @k guard:5:@l call:3 j@k @l", line(0, 6*(2+2+2+2)+6), line(1, 2+4+2), "k:5:0"),
		looped("a call beside six turns", 2, 6, "call:3 u storelocal:5 @k guard:5:@l n j@k @l", line(6, 6*(2+6+6*5+2+2)+6), nil, "k:5:6"),
		{"beside a loop", "u storelocal:3 @h guard:3:@o n j@h @o call:3 r", []string{"h:3:6"}, line(1, 2+6*5+2+6), nil},
		{"around a loop", "b z@e u storelocal:3 @h guard:3:@o n j@h @e call:3 @o r", []string{"h:3:6"}, line(1, 3+4+2), nil},
	}
}

func limited(x limitCase) impl.Program {
	p := certified(x.text, x.certs...)
	p.Consts = append(p.Consts, impl.Const{Type: impl.TypeUint, Word: 1 << 20})
	return p
}

func TestCostsAtTheLimit(t *testing.T) {
	for _, x := range limitCases() {
		p := limited(x)
		peak := x.peak
		if peak == nil {
			peak = x.cost
		}
		most := (impl.MaxCost - peak(0)) / (peak(1) - peak(0))
		for _, n := range []int64{0, 1, 2, 1000, most / 2, most - 1000, most - 1, most, most + 1, most + 2, most + 1000, 2 * most, impl.MaxCost - 5, impl.MaxCost} {
			want := x.cost(n)
			if n > most {
				want = -1
			}
			// Around a loop: where the call is cheap the loop is the dearer way.
			if x.name == "around a loop" && n < 100 {
				want = 3 + 2 + 6*5 + 2 + 2
			}
			costs := []int64{0, 0, 0, n, 1000}
			if n > impl.MaxCost || n < 0 {
				continue
			}
			got, model := impl.FuncCost(p, 1, costs), wantedCost(p, 1, costs)
			if got != want || model != want {
				t.Errorf("%s with %d: %d, not %d (the model: %d)", x.name, n, got, want, model)
			}
		}
	}
}

// Products that would wrap round in words of 32 or 64 bits, to something small or below 0.
func TestCostsFarBeyondTheLimit(t *testing.T) {
	words := []uint32{1 << 16, 1<<16 + 1, 1 << 20, 1 << 30, 1<<31 - 1, 1 << 31, 1<<31 + 1, 3 << 30, 0xaaaaaaab, math.MaxUint32 - 1, math.MaxUint32}
	sums := []int64{8, 1 << 12, 1 << 16, 1<<16 - 1, 1 << 20, 1 << 30, 1<<31 - 1, 1 << 31, 1<<31 + 1, 3 << 30, 0xcccccccd, impl.MaxCost - 1, impl.MaxCost}
	told := 0
	for _, word := range words {
		for _, sum := range sums {
			p := certified("u storelocal:3 @h guard:3:@o call:3 j@h @o r", "h:3:6")
			p.Consts[2].Word, p.Certs[0].Init = word, word
			costs := []int64{0, 0, 0, sum - 8}
			got, model := impl.FuncCost(p, 1, costs), wantedCost(p, 1, costs)
			if got != model {
				t.Errorf("%d turns of %d: %d, not %d", word, sum, got, model)
			}
			if got >= 0 {
				told++
			}
			// The same within one that is gone round often.
			q := certified("const:9 storelocal:5 @k guard:5:@p u storelocal:3 @h guard:3:@o call:3 j@h @o j@k @p r", "h:3:6", "k:5:1000")
			q.Consts[2].Word, q.Certs[1].Init = word, word
			if got, model := impl.FuncCost(q, 1, costs), wantedCost(q, 1, costs); got != model {
				t.Errorf("within a loop %d turns of %d: %d, not %d", word, sum, got, model)
			}
		}
	}
	if told < 5 || told > len(words)*len(sums)-50 {
		t.Error("told", told)
	}
}

func TestCostsOfWhatHasNone(t *testing.T) {
	for _, c := range faultCases() {
		p := someProgram()
		c.change(&p)
		for f := range int64(4) {
			got := impl.FuncCost(p, f, []int64{1, 1, 1, 1})
			if c.want != 0 && got != -1 || got != wantedCost(p, f, []int64{1, 1, 1, 1}) {
				t.Errorf("%s: function %d costs %d", c.name, f, got)
			}
		}
	}
	p := certified("u storelocal:3 @h guard:3:@o n j@h @o r", "h:3:6")
	for _, f := range append(farNumbers(), 5, 6) {
		if got := impl.FuncCost(p, f, nil); got != -1 {
			t.Error("function", f, "costs", got)
		}
	}
	for i, p := range oddPrograms() {
		if got := impl.FuncCost(p, 0, nil); got != wantedCost(p, 0, nil) {
			t.Error("odd program", i, "costs", got)
		}
	}
	for _, text := range []string{
		// Each code of a flow.
		"n", "r n", "guard:3:@a @a n", "r r", "n r n r", "guard:3:@b @a n @b b z@a r",
		// No way comes to a return, or not from everywhere: such a loop has a fault.
		"@h j@h", "n @h j@h", "n @h n n j@h", "@h guard:3:@o j@h @o j@h", "b z@h r @h n j@h", "u storelocal:3 @h guard:3:@h j@h", "u storelocal:3 @h guard:3:@a @a n j@h",
	} {
		for _, certs := range [][]string{nil, {"h:3:6"}} {
			checkCost(t, -1, nil, text, certs...)
		}
	}
}

// Each fault of a loop, of one among several too.
func TestCostsOfFaultyLoops(t *testing.T) {
	faulty := []struct {
		text string
		cert string
	}{
		{"u storelocal:3 @h guard:3:@o n j@h @o", "o:3:6"},
		{"u storelocal:3 @h guard:6:@o n j@h @o", "h:3:6"},
		{"u storelocal:3 @h n b z@h", "h:3:6"},
		{"u storelocal:3 @h guard:3:@a @a b z@h", "h:3:6"},
		{"u storelocal:3 @h guard:3:@o storelocal:3 j@h @o", "h:3:6"},
		{"u storelocal:3 n @h guard:3:@o n j@h @o", "h:3:6"},
		{"const:6 storelocal:3 @h guard:3:@o n j@h @o", "h:3:6"},
		{"u storelocal:5 @h guard:3:@o n j@h @o", "h:3:6"},
	}
	good := "u storelocal:7 @k guard:7:@l n j@k @l"
	outer := "u storelocal:7 @k guard:7:@l %s j@k @l r"
	checkCost(t, 2+6*5+2+2, nil, good+" r", "k:7:6")
	for _, x := range faulty {
		checkCost(t, -1, nil, x.text+" r", x.cert)
		checkCost(t, -1, nil, good+" "+x.text+" r", "k:7:6", x.cert)
		checkCost(t, -1, nil, x.text+" "+good+" r", "k:7:6", x.cert)
		checkCost(t, -1, nil, fmt.Sprintf(outer, x.text), "k:7:6", x.cert)
	}
	checkCost(t, -1, nil, "@h guard:3:@o n j@h @o r", "h:3:6")
	checkCost(t, -1, nil, "@h guard:3:@o "+good+" j@h @o r", "h:3:6", "k:7:6")
	// A certificate that is no loop's does not matter here.
	checkCost(t, 2+6*5+2+2, nil, good+" r", "k:7:6", "l:3:6")
	checkCost(t, 3, nil, "@a n r", "a:3:6")
}

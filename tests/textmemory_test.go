package tests

import (
	"fmt"
	"reflect"
	"runtime"
	"slices"
	"strings"
	"sync"
	"testing"
	"time"

	"loop.example/s02548/impl"
)

func TestFormatArgumentsAndMemory(t *testing.T) {
	t.Parallel()
	for n, p := range slices.Concat(loadPrograms(), oddPrograms(), goodPrograms()) {
		p = roomyOf(p)
		before := wholeOf(p)
		first := impl.FormatProgram(p)
		for range 5 {
			if impl.FormatProgram(p) != first {
				t.Error("another answer of program", n)
			}
		}
		if !reflect.DeepEqual(before, wholeOf(p)) {
			t.Error("changed: program", n)
		}
		// What was answered stays, whatever becomes of the argument.
		was := strings.Clone(first)
		spoiledNumbers(&p)
		if first != was {
			t.Error("an answer hangs on its argument: program", n)
		}
	}
}

// oddTexts are no program's, or have a fault, or do not pass, or pass; with scans and without.
func oddTexts() []string {
	list := []string{"", "\n", " ", "\x00", "\xff\n\xff", "x\n" + wholeText(), strings.Repeat("\n", 70000), strings.Repeat("region\n", 9000), "region", "region\nregion\nregion\n", leastText, leastText[:len(leastText)-1], wholeText(), leastText + "scan\n", leastText + "scan\nscan 1\nx", wholeText() + "scan 1 2 3 4\nscan 1\n", "region\nregion\nregion\nfunc : none :\n", "region\nregion\nregion\nfunc : none :\nscan\n", wantedText(summing()) + scanText([]uint32{1, 5}, nil, []uint32{0, 7}), wantedText(dear(impl.MaxRun/2)) + "scan\nscan\nscan\n", wantedText(dear(impl.MaxCost)), strings.Repeat("scan\n", 13000), lengthOf(impl.MaxText), lengthOf(impl.MaxText + 1)}
	for _, texts := range [][]string{{"call:0 r"}, {"n"}, {"x r"}, {"@h b z@h r"}, {"@h r !h:0:6"}, {"call:1 call:1 r", bigText}, {"u call:1 x r", tower(64) + "r"}} {
		list = append(list, wantedText(several(texts...)), wantedText(several(texts...))+"scan 1 2\n")
	}
	return list
}

func TestParseArgumentsAndMemory(t *testing.T) {
	t.Parallel()
	codes := map[int64]int{}
	for n, text := range oddTexts() {
		was := strings.Clone(text)
		first := impl.ParseProgram(text)
		codes[first.Code]++
		what := fmt.Sprint("text ", n)
		checkOwnMemory(t, what, first)
		want := copyOf(first)
		if !sameAnswers(first, wantedParse(text)) {
			t.Errorf("%s: code %d", what, first.Code)
		}
		for range 5 {
			again := impl.ParseProgram(text)
			checkOwnMemory(t, what+" again", []impl.ProgramResult{first, again})
			if !sameAnswers(again, want) {
				t.Error("another answer:", what)
			}
			spoiledNumbers(&again)
		}
		spoiledNumbers(&first)
		if !sameAnswers(impl.ParseProgram(text), want) || text != was {
			t.Error("an answer is kept, or the text was changed:", what)
		}
	}
	if codes[0] < 10 || codes[1] < 15 || codes[2] < 1 {
		t.Error("codes", codes)
	}
}

// All lists of a program that is read have memory of their own, where many are of the same length.
func TestListsThatAreReadAreTheirOwn(t *testing.T) {
	t.Parallel()
	p := leastProgram()
	p.Regions = [][]int64{{1, 2}, {1, 2}, {1, 2}}
	p.Funcs[0].Locals = []int64{3, 3}
	for range 20 {
		p.Funcs = append(p.Funcs, impl.Func{Params: []int64{1, 2}, Result: 1, Locals: []int64{3, 3}, Code: []impl.Instr{{}, ret()}})
	}
	p.Certs = []impl.Cert{{}, {Func: 1, Counter: 2}, {Func: 2, Counter: 3}}
	r := impl.ParseProgram(wantedText(p))
	checkOwnMemory(t, "read", r)
	if r.Code != 0 || !sameAnswers(r.Program, p) {
		t.Fatal("code", r.Code)
	}
	// Grown and written to one by one, they leave the others as they are.
	eachList(reflect.ValueOf(&r.Program).Elem(), func(list reflect.Value) {
		before := copyOf(r.Program)
		list.Set(reflect.Append(list, reflect.Zero(list.Type().Elem())))
		list.Set(list.Slice(0, list.Len()-1))
		if !sameAnswers(before, r.Program) {
			t.Error("another list changed")
		}
	})
}

func TestServeArgumentsAndMemory(t *testing.T) {
	t.Parallel()
	seen := map[string]int{}
	for n, text := range oddTexts() {
		was := strings.Clone(text)
		first := checkServe(t, fmt.Sprint("text ", n), text)
		for range 5 {
			if impl.Serve(text) != first {
				t.Error("another answer of text", n)
			}
		}
		if text != was {
			t.Error("changed: text", n)
		}
		countAnswers(seen, first)
	}
	for _, word := range []string{"bad", "fault", "bound", "long", "out", "keep", "refused", "refused 2", "refused 3", "refused 4", "refused 5", "refused 6", "refused 7", "refused 8"} {
		if seen[word] == 0 {
			t.Error("never", word)
		}
	}
}

// Nothing is kept from one call to the next, whatever was asked in between.
func TestTextsOneBehindTheOther(t *testing.T) {
	t.Parallel()
	texts := oddTexts()
	var served []string
	var codes []int64
	for _, text := range texts {
		served, codes = append(served, impl.Serve(text)), append(codes, impl.ParseProgram(text).Code)
	}
	d := dice(251)
	for range 600 {
		n := d.next(len(texts))
		if impl.Serve(texts[n]) != served[n] || impl.ParseProgram(texts[n]).Code != codes[n] {
			t.Error("another answer of text", n)
		}
	}
}

// settled tells whether as few goroutines as there were come to be left; one that has closed its channel may be about to end.
func settled(before int) bool {
	for range 2000 {
		if runtime.NumGoroutine() <= before {
			return true
		}
		time.Sleep(time.Millisecond)
	}
	return false
}

// No goroutine is left behind, also where a text is bad at its first line. (Not beside other tests, whose goroutines would be counted.)
func TestNoGoroutineIsLeft(t *testing.T) {
	before := runtime.NumGoroutine()
	for n, text := range oddTexts() {
		for range 20 {
			impl.ParseProgram(text)
			impl.Serve(text)
		}
		if !settled(before) {
			t.Fatal("goroutines are left by text", n, runtime.NumGoroutine()-before)
		}
	}
	for _, p := range goodPrograms() {
		impl.FormatProgram(p)
	}
	for range 3000 {
		impl.ParseProgram("x\ny\nz\n")
		impl.Serve("bad\nbad\nbad\n")
	}
	if !settled(before) {
		t.Fatal("goroutines are left:", runtime.NumGoroutine()-before)
	}
}

// The same answers when many ask at once.
func TestTextsByManyAtOnce(t *testing.T) {
	t.Parallel()
	texts := oddTexts()
	p := someProgram()
	formatted := wantedText(p)
	var served []string
	var parsed []impl.ProgramResult
	for _, text := range texts {
		served, parsed = append(served, wantedServe(text)), append(parsed, wantedParse(text))
	}
	var group sync.WaitGroup
	for first := range 8 {
		group.Go(func() {
			for k := range texts {
				n := (k + first*5) % len(texts)
				if impl.Serve(texts[n]) != served[n] || !sameAnswers(impl.ParseProgram(texts[n]), parsed[n]) || impl.FormatProgram(p) != formatted {
					t.Error("another answer of text", n)
				}
			}
		})
	}
	group.Wait()
}

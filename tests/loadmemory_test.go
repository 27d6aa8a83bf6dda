package tests

import (
	"bytes"
	"fmt"
	"math"
	"reflect"
	"sync"
	"testing"

	"loop.example/s02548/impl"
)

// loadPrograms has some that pass, some by each code, and some that are none.
func loadPrograms() []impl.Program {
	list := append(boundPrograms(), passing(), many())
	for _, texts := range passingTexts() {
		list = append(list, several(texts...))
	}
	for _, x := range holdFaults() {
		list = append(list, x.p)
	}
	return list
}

func TestCheckArgumentsAndMemory(t *testing.T) {
	t.Parallel()
	passed := 0
	for n, p := range loadPrograms() {
		p = roomyOf(p)
		before := wholeOf(p)
		first := impl.Check(p)
		checkOwnMemory(t, fmt.Sprint("Check ", n), first, p)
		if !sameAnswers(first, wantedCheck(p)) {
			t.Errorf("program %d: %s", n, loadText(first))
		}
		for range 10 {
			if again := impl.Check(p); !sameAnswers(again, first) {
				t.Error("another answer of program", n)
			} else {
				checkOwnMemory(t, fmt.Sprint("Check ", n, " again"), []impl.LoadResult{first, again})
			}
		}
		if first.Code == 0 {
			passed++
		}
		for k, shapes := range append(oddLists(), shapesOf(p), append(shapesOf(p), nil)) {
			checkHoldsArguments(t, fmt.Sprint("program ", n, ", list ", k), p, shapes)
		}
		if !reflect.DeepEqual(before, wholeOf(p)) {
			t.Error("changed: program", n)
		}
	}
	if passed < 20 {
		t.Error("passed", passed)
	}
}

// oddLists are shapes of all functions that may lead a reader of them astray.
func oddLists() [][][][]int64 {
	list := [][][][]int64{nil, {}, {nil}, {{}}, {{{}}}, {nil, nil, nil, nil}, make([][][]int64, 3000)}
	for _, shapes := range oddShapes() {
		list = append(list, [][][]int64{shapes}, [][][]int64{shapes, shapes}, [][][]int64{shapes, nil, shapes})
	}
	return append(list, [][][]int64{{{math.MinInt64}}}, [][][]int64{{nil, {math.MaxInt64, -1, 0, 4}}})
}

func checkHoldsArguments(t *testing.T, what string, p impl.Program, shapes [][][]int64) {
	t.Helper()
	size := 0
	for _, list := range shapes {
		size += 1 + len(list)
	}
	if size < 100 {
		shapes = roomyOf(shapes)
	}
	before := wholeOf(shapes)
	first := impl.Holds(p, shapes)
	if first != wantedHolds(p, shapes) {
		t.Errorf("%s: %t of %d lists", what, first, len(shapes))
	}
	for range 3 {
		if impl.Holds(p, shapes) != first {
			t.Error("another answer:", what)
		}
	}
	if !reflect.DeepEqual(before, wholeOf(shapes)) {
		t.Error("shapes were changed:", what)
	}
}

// oddBytes are no program's, or of one that does not pass, or of one that does.
func oddBytes() [][]byte {
	list := [][]byte{nil, {}, {0}, []byte("PLC1"), []byte("PLC1\x01\x00\x00\x00\x00\x00"), summed(nil), summed([]byte("PLC1\x01\x00")),
		summed([]byte("PLC1\x01\x00\xff\xff")), summed([]byte("PLC1\x01\x00\x00\x00\x00\x00\x00\x00\x00\x00\xff\xff")), bytes.Repeat([]byte{255}, 5000), make([]byte, 5000), bytes.Repeat([]byte("PLC1"), 300)}
	for _, p := range loadPrograms() {
		b := bytesOf(p)
		list = append(list, b, b[:len(b)-1], summed(b), summed(b[:len(b)-5]))
	}
	return list
}

func TestLoadArgumentsAndMemory(t *testing.T) {
	t.Parallel()
	codes := map[int64]int{}
	for n, b := range oddBytes() {
		b = roomyBytes(b)
		before := wholeOf(b)
		first, again := impl.Load(b), impl.Load(b)
		checkOwnMemory(t, fmt.Sprint("Load ", n), []impl.LoadResult{first, again}, b)
		r := impl.Decode(b)
		want := impl.LoadResult{Code: 1, Sub: r.Code}
		if r.Code == 0 {
			want = wantedCheck(r.Program)
		}
		if !sameAnswers(first, want) || !sameAnswers(again, want) {
			t.Errorf("bytes %d: %s", n, loadText(first))
		}
		codes[first.Code]++
		if !reflect.DeepEqual(before, wholeOf(b)) {
			t.Error("changed: bytes", n)
		}
		for k := range b {
			b[k] = 0xee
		}
		if !sameAnswers(first, want) {
			t.Error("an answer hangs on its bytes:", n)
		}
	}
	if codes[0] < 20 || codes[1] < 50 || codes[2] < 20 {
		t.Error("seldom:", codes)
	}
}

// spoiled writes to all numbers of a program, and behind the end of its lists.
func spoiled(p *impl.Program) {
	eachNumber(reflect.ValueOf(p).Elem(), func(n reflect.Value) { setNumber(n, 77) })
	eachList(reflect.ValueOf(p).Elem(), func(list reflect.Value) {
		list.Set(reflect.Append(list, reflect.Zero(list.Type().Elem())))
	})
}

// What is done to an answer shows neither in the argument nor in the next answer, and the other way round.
func TestLoadingAnswersNewMemory(t *testing.T) {
	t.Parallel()
	for n, p := range append(loadPrograms(), passing()) {
		before := copyOf(p)
		b := bytesOf(p)
		checked, loaded := impl.Check(p), impl.Load(b)
		wantChecked, wantLoaded := copyOf(checked), copyOf(loaded)
		spoiled(&checked.Program)
		spoiled(&loaded.Program)
		if !sameAnswers(p, before) || !bytes.Equal(b, bytesOf(p)) {
			t.Error("an argument is kept: program", n)
		}
		if !sameAnswers(impl.Check(p), wantChecked) || !sameAnswers(impl.Load(b), wantLoaded) {
			t.Error("an answer is kept: program", n)
		}
		checked = impl.Check(p)
		spoiled(&p)
		if !sameAnswers(checked, wantChecked) {
			t.Error("an answer hangs on its argument: program", n)
		}
	}
}

// The same answers when many ask at once, of the same arguments.
func TestLoadingByManyAtOnce(t *testing.T) {
	t.Parallel()
	programs := []impl.Program{passing(), several("x r"), several("call:0 r"), {}, someProgram(), certified(counting, "h:3:6")}
	var group sync.WaitGroup
	for range 8 {
		group.Go(func() {
			for _, p := range programs {
				want := wantedCheck(p)
				for range 20 {
					if !sameAnswers(impl.Check(p), want) || impl.Holds(p, shapesOf(p)) != (want.Code == 0) {
						t.Error("another answer")
					}
				}
			}
		})
	}
	group.Wait()
}

// Far numbers in each place of a program that passes: there is an answer, and it is the model's.
func TestCheckAtFarNumbers(t *testing.T) {
	t.Parallel()
	base := passing()
	shapes := shapesOf(base)
	seen := map[int64]int{}
	p := copyOf(base)
	eachNumber(reflect.ValueOf(&p).Elem(), func(n reflect.Value) {
		was := numberIn(n)
		for _, v := range append(farNumbers(), was+1, was-1, 0, 1, 3) {
			setNumber(n, v)
			got := impl.Check(p)
			if !sameAnswers(got, wantedCheck(p)) {
				t.Fatalf("with %d for %d: %s", v, was, loadText(got))
			}
			if impl.Holds(p, shapes) != wantedHolds(p, shapes) {
				t.Fatalf("with %d for %d: they hold or not", v, was)
			}
			seen[got.Sub]++
		}
		setNumber(n, was)
	})
	if seen[0] < 20 || seen[1] < 500 || seen[4] < 20 {
		t.Error("seldom:", seen)
	}
}

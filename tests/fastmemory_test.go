package tests

import (
	"bytes"
	"fmt"
	"reflect"
	"sync"
	"testing"

	"loop.example/s02548/impl"
)

// oddMemories are of another size than most programs have, or of words that are no bools, or good ones.
func oddMemories(p impl.Program) []impl.Memory {
	list := []impl.Memory{{}, someMemory(), {In: make([]uint32, 3000)}, {Out: []uint32{2}, Keep: []uint32{3}}, {In: []uint32{}, Out: []uint32{}, Keep: []uint32{}}}
	if len(p.Regions) == 3 {
		d := dice(131)
		list = append(list, d.memories(p, 3)...)
		long := lean(p)
		long.Keep = append(long.Keep, 1)
		list = append(list, long)
	}
	return list
}

func TestFlattenArgumentsAndMemory(t *testing.T) {
	t.Parallel()
	good := 0
	for n, p := range append(loadPrograms(), oddPrograms()...) {
		p = roomyOf(p)
		before := wholeOf(p)
		first := impl.Flatten(p)
		checkOwnMemory(t, fmt.Sprint("Flatten ", n), first, p)
		want := copyOf(first)
		if !sameAnswers(first, wantedFlat(p)) {
			t.Errorf("program %d: %+v", n, first)
		}
		for range 5 {
			again := impl.Flatten(p)
			checkOwnMemory(t, fmt.Sprint("Flatten ", n, " again"), []impl.Fast{first, again}, p)
			if !sameAnswers(again, want) {
				t.Error("another answer of program", n)
			}
		}
		if first.Good {
			good++
		}
		if !reflect.DeepEqual(before, wholeOf(p)) {
			t.Error("changed: program", n)
		}
		spoiledNumbers(&first)
		if !sameAnswers(impl.Flatten(p), want) || !reflect.DeepEqual(before, wholeOf(p)) {
			t.Error("an answer is kept: program", n)
		}
	}
	if good < 20 {
		t.Error("good", good)
	}
}

// spoiledNumbers writes to all numbers of an answer.
func spoiledNumbers[T any](answer *T) {
	eachNumber(reflect.ValueOf(answer).Elem(), func(n reflect.Value) { setNumber(n, 77) })
}

func TestRunFastArgumentsAndMemory(t *testing.T) {
	t.Parallel()
	ran, zero := 0, 0
	for n, p := range append(loadPrograms(), oddPrograms()...) {
		p = roomyOf(p)
		program := wholeOf(p)
		for k, m := range oddMemories(p) {
			what := fmt.Sprint("program ", n, ", memory ", k)
			if len(m.In) < 1000 {
				m = roomyOf(m)
			}
			before := wholeOf(m)
			first := checkFast(t, what, p, m)
			want := copyOf(first)
			for range 3 {
				again := impl.RunFast(p, m)
				checkOwnMemory(t, what, []impl.Memory{first, again}, m, p)
				if !sameAnswers(again, want) {
					t.Error("another answer:", what)
				}
				spoiledNumbers(&again)
			}
			if !reflect.DeepEqual(before, wholeOf(m)) {
				t.Error("the memory was changed:", what)
			}
			if len(first.In)+len(first.Out)+len(first.Keep) > 0 {
				ran++
			} else {
				zero++
			}
			spoiledNumbers(&m)
			if !sameAnswers(first, want) {
				t.Error("an answer hangs on its argument:", what)
			}
		}
		if !reflect.DeepEqual(program, wholeOf(p)) {
			t.Error("changed: program", n)
		}
	}
	if ran < 50 || zero < 200 {
		t.Error("ran", ran, "answered nothing", zero)
	}
}

// oddInputs are lists of inputs, good ones and others.
func oddInputs() [][][]uint32 {
	one := []uint32{1, 2}
	return [][][]uint32{nil, {}, {nil}, {{}}, {{1, 2}}, {{0, 5}, {7, 6}, nil, {1}, {3, 4}}, {{1, 2, 3}, {}, {0, 0}}, {one, one, one, one[:1], one[:0]}, {make([]uint32, 3000), {2, 2}}, make([][]uint32, 30), make([][]uint32, 1001)}
}

func TestScansArgumentsAndMemory(t *testing.T) {
	t.Parallel()
	codes := map[int64]int{}
	list := append(oddBytes(), bytesOf(summing()), bytesOf(dear(impl.MaxRun/2)), bytesOf(dear(impl.MaxCost)))
	for n, b := range list {
		// Bytes that are much like each other come by fours.
		if n%4 != n/4%4 && n < len(list)-3 {
			continue
		}
		b = roomyBytes(b)
		before := wholeOf(b)
		for k, inputs := range oddInputs() {
			// Where the lists share memory they go in as they are.
			if k != 7 && len(inputs) < 10 {
				inputs = roomyOf(inputs)
			}
			what := fmt.Sprint("bytes ", n, ", inputs ", k)
			words := wholeOf(inputs)
			first, again := impl.Scans(b, inputs), impl.Scans(b, inputs)
			checkOwnMemory(t, what, []impl.ScanResult{first, again}, inputs, b)
			codes[first.Code]++
			want := copyOf(first)
			if !sameAnswers(again, want) || !bytes.Equal(before, wholeOf(b)) || !reflect.DeepEqual(words, wholeOf(inputs)) {
				t.Error("another answer, or something was changed:", what)
			}
			spoiledNumbers(&again)
			if !sameAnswers(impl.Scans(b, inputs), want) {
				t.Error("an answer is kept:", what)
			}
			spoiledNumbers(&inputs)
			if !sameAnswers(first, want) {
				t.Error("an answer hangs on its argument:", what)
			}
		}
	}
	for code := range int64(5) {
		if codes[code] < 5 {
			t.Error("seldom", code, codes)
		}
	}
}

// The same answers when many ask at once, of the same arguments.
func TestFastByManyAtOnce(t *testing.T) {
	t.Parallel()
	programs := []impl.Program{passing(), summing(), adding(5, 2), several("x r"), several("call:0 r"), dear(5000), {}}
	inputs := [][]uint32{{0, 5}, {7, 6}, nil, {1}, {3, 4}, {9}}
	var group sync.WaitGroup
	for range 8 {
		group.Go(func() {
			for n, p := range programs {
				m := impl.Memory{}
				if len(p.Regions) == 3 {
					m = lean(p)
				}
				flat, memory, b := wantedFlat(p), impl.Memory{}, bytesOf(p)
				if flat.Good {
					memory = impl.MemoryOf(impl.Run(p, m, mostSteps))
				}
				scans := wantedScans(b, inputs)
				for range 10 {
					if !sameAnswers(impl.Flatten(p), flat) || !sameAnswers(impl.RunFast(p, m), memory) || !sameAnswers(impl.Scans(b, inputs), scans) {
						t.Error("another answer of program", n)
					}
				}
			}
		})
	}
	group.Wait()
}

// Far numbers in each place of a program that passes, and in its memory: there is an answer, and it is the checked machine's.
func TestFastAtFarNumbers(t *testing.T) {
	t.Parallel()
	p := passing()
	m := lean(p)
	ran, zero := 0, 0
	check := func(n reflect.Value) {
		was := numberIn(n)
		for _, v := range append(farNumbers(), was+1, was-1, 0, 1, 2) {
			setNumber(n, v)
			r := impl.Check(p)
			if !sameAnswers(impl.Flatten(p), wantedFlat(p)) {
				t.Fatalf("with %d for %d: %+v", v, was, impl.Flatten(p))
			}
			if r.Bound > 100000 && r.Bound <= impl.MaxRun {
				continue
			}
			if got := checkFast(t, fmt.Sprint(v, " for ", was), p, m); len(got.Out) > 0 {
				ran++
			} else {
				zero++
			}
		}
		setNumber(n, was)
	}
	eachNumber(reflect.ValueOf(&p).Elem(), check)
	eachNumber(reflect.ValueOf(&m).Elem(), check)
	if ran < 100 || zero < 500 {
		t.Error("ran", ran, "answered nothing", zero)
	}
}

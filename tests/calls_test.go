package tests

import (
	"reflect"
	"testing"

	"loop.example/s02548/impl"
)

// caller is a program in which each function calls these others.
func caller(calls ...[]int64) impl.Program {
	p := impl.Program{Regions: [][]int64{nil, nil, nil}}
	for _, list := range calls {
		var code []impl.Instr
		for _, f := range list {
			code = append(code, instr(impl.OpCall, f))
		}
		p.Funcs = append(p.Funcs, impl.Func{Code: append(code, ret())})
	}
	return p
}

// wantedCalls tries all functions from the least on, time and again.
func wantedCalls(p impl.Program) []int64 {
	if impl.ProgramFault(p) != 0 {
		return nil
	}
	told := make([]bool, len(p.Funcs))
	var order []int64
	for range p.Funcs {
		for f := range p.Funcs {
			free := !told[f]
			for _, i := range p.Funcs[f].Code {
				free = free && (i.Op != impl.OpCall || told[i.A])
			}
			if free {
				told[f] = true
				order = append(order, int64(f))
				break
			}
		}
	}
	if len(order) < len(p.Funcs) {
		return nil
	}
	return order
}

func TestCallOrderOfSomePrograms(t *testing.T) {
	for i, x := range []struct {
		p    impl.Program
		want string
	}{
		{leastProgram(), "0"},
		{caller(nil, nil, nil), "0,1,2"},
		{caller([]int64{1}, nil), "1,0"},
		{caller([]int64{2}, nil, []int64{1}), "1,2,0"},
		{caller([]int64{2}, nil, nil), "1,2,0"},
		{caller([]int64{1}, nil, nil), "1,0,2"},
		{caller([]int64{3}, []int64{3}, nil, nil), "2,3,0,1"},
		{caller([]int64{3, 3, 2, 3}, nil, []int64{3}, []int64{1, 1}), "1,3,2,0"},
		{caller(nil, []int64{0}, []int64{0}), "0,1,2"},
		{caller([]int64{0}), ""},
		{caller(nil, []int64{1}), ""},
		{caller([]int64{1}, []int64{0}), ""},
		{caller(nil, []int64{2}, []int64{1}), ""},
		{caller([]int64{1}, []int64{2}, []int64{0}), ""},
		{caller(nil, []int64{2}, []int64{3}, []int64{1}, nil), ""},
		{caller([]int64{1, 2}, nil, []int64{1, 2}), ""},
		{impl.Program{}, ""},
		{caller([]int64{2}, nil), ""},
		{caller([]int64{-1}), ""},
	} {
		if got := listText(impl.CallOrder(x.p)); got != x.want {
			t.Errorf("%d: %s, not %s", i, got, x.want)
		}
	}
}

// Other instructions have an A too, and calls count where they are never come to.
func TestCallOrderLooksAtCallsAlone(t *testing.T) {
	p := caller(nil, nil)
	p.Funcs[0].Locals = []int64{3, 3}
	p.Funcs[0].Code = []impl.Instr{instr(impl.OpLoadLocal, 1), instr(impl.OpStoreLocal, 1), instr(impl.OpAdd, 3), ret()}
	if got := listText(impl.CallOrder(p)); got != "0,1" {
		t.Error("without a call:", got)
	}
	p.Funcs[0].Code = append(p.Funcs[0].Code, instr(impl.OpCall, 1))
	if got := listText(impl.CallOrder(p)); got != "1,0" {
		t.Error("a call behind the return:", got)
	}
	p.Funcs[1].Code = append(p.Funcs[1].Code, instr(impl.OpCall, 1), ret())
	if got := listText(impl.CallOrder(p)); got != "" {
		t.Error("one that would call itself behind its return:", got)
	}
}

func TestCallOrderOfFaultyPrograms(t *testing.T) {
	programs := append(oddPrograms(), goodPrograms()...)
	for _, c := range faultCases() {
		p := someProgram()
		c.change(&p)
		programs = append(programs, p)
	}
	for i, p := range programs {
		if got := impl.CallOrder(p); !sameAnswers(got, wantedCalls(p)) {
			t.Error(i, got)
		}
	}
}

func TestCallOrderOfManyPrograms(t *testing.T) {
	d := dice(31)
	round, straight := 0, 0
	for range 2000 {
		count := 1 + d.next(impl.MaxFuncs)
		rank := make([]int, count)
		for f := range rank {
			rank[f] = d.next(100)
		}
		calls := make([][]int64, count)
		for range d.next(2 * count) {
			f, g := d.next(count), d.next(count)
			if rank[f] < rank[g] || d.next(20) == 0 {
				calls[f] = append(calls[f], int64(g))
			}
		}
		p := caller(calls...)
		got, want := impl.CallOrder(p), wantedCalls(p)
		if !sameAnswers(got, want) {
			t.Fatal("of", calls, "it is", got, "not", want)
		}
		if len(got) == 0 {
			round++
		} else {
			straight++
		}
	}
	if round < 100 || straight < 500 {
		t.Error("round", round, "straight", straight)
	}
}

func TestCallOrderArgumentsAndMemory(t *testing.T) {
	full := caller(make([][]int64, impl.MaxFuncs)...)
	for f := range full.Funcs {
		for g := f + 1; g < len(full.Funcs); g++ {
			full.Funcs[f].Code = append([]impl.Instr{instr(impl.OpCall, int64(g))}, full.Funcs[f].Code...)
		}
	}
	for i, p := range []impl.Program{full, leastProgram(), someProgram(), fullProgram(), caller([]int64{0}), caller([]int64{7}), {}} {
		p = roomyOf(p)
		before := wholeOf(p)
		order := impl.CallOrder(p)
		if !reflect.DeepEqual(before, wholeOf(p)) {
			t.Error("changed:", i)
		}
		checkOwnMemory(t, "CallOrder", order, p)
		for range 20 {
			if !sameAnswers(order, impl.CallOrder(p)) {
				t.Error("another answer:", i)
			}
		}
	}
}

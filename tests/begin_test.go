package tests

import (
	"math"
	"reflect"
	"testing"

	"loop.example/s02548/impl"
)

// someMemory is one of someProgram.
func someMemory() impl.Memory {
	return impl.Memory{
		In:   []uint32{9, 2, 0xffffffff, 4, 5, 6},
		Out:  []uint32{7, 8, 9, 10, 11, 12, 1, 0, 1},
		Keep: []uint32{1, 0, 1, 0, 1, 0, 1, 0, 13, 14, 15, 0x80000000},
	}
}

// memoryCase is a change of someProgram and its memory, and whether this is valid then.
type memoryCase struct {
	name   string
	good   bool
	change func(p *impl.Program, m *impl.Memory)
}

func parts(m *impl.Memory) []*[]uint32 {
	return []*[]uint32{&m.In, &m.Out, &m.Keep}
}

func memoryCases() []memoryCase {
	list := []memoryCase{
		{"as it is", true, func(p *impl.Program, m *impl.Memory) {}},
		{"no memory", false, func(p *impl.Program, m *impl.Memory) { *m = impl.Memory{} }},
		{"no memory of no cells", true, func(p *impl.Program, m *impl.Memory) { *p, *m = leastProgram(), impl.Memory{} }},
		{"empty parts of no cells", true, func(p *impl.Program, m *impl.Memory) {
			*p, *m = leastProgram(), impl.Memory{In: []uint32{}, Out: []uint32{}, Keep: []uint32{}}
		}},
		{"a word of no cells", false, func(p *impl.Program, m *impl.Memory) { *p, *m = leastProgram(), impl.Memory{In: []uint32{0}} }},
		{"parts for one another", false, func(p *impl.Program, m *impl.Memory) { m.In, m.Out = m.Out, m.In }},
		{"no program", false, func(p *impl.Program, m *impl.Memory) { *p, *m = impl.Program{}, impl.Memory{} }},
		{"great numbers", true, func(p *impl.Program, m *impl.Memory) { m.Out[0], m.Out[4], m.Keep[8] = 1<<32-1, 1<<32-1, 1<<32-1 }},
	}
	for i := range 3 {
		list = append(list,
			memoryCase{"a part of none", false, func(p *impl.Program, m *impl.Memory) { *parts(m)[i] = nil }},
			memoryCase{"a word less", false, func(p *impl.Program, m *impl.Memory) { *parts(m)[i] = (*parts(m)[i])[1:] }},
			memoryCase{"a word more", false, func(p *impl.Program, m *impl.Memory) { *parts(m)[i] = append(*parts(m)[i], 0) }},
			memoryCase{"many words", false, func(p *impl.Program, m *impl.Memory) { *parts(m)[i] = make([]uint32, 70000) }})
	}
	for _, w := range []uint32{2, 3, 256, 0x80000000, math.MaxUint32} {
		list = append(list,
			memoryCase{"an input of bool", true, func(p *impl.Program, m *impl.Memory) { m.In[0] = w }},
			memoryCase{"an output of bool", false, func(p *impl.Program, m *impl.Memory) { m.Out[6] = w }},
			memoryCase{"the last output of bool", false, func(p *impl.Program, m *impl.Memory) { m.Out[8] = w }},
			memoryCase{"what is kept of bool", false, func(p *impl.Program, m *impl.Memory) { m.Keep[0] = w }},
			memoryCase{"the last of what is kept of bool", false, func(p *impl.Program, m *impl.Memory) { m.Keep[7] = w }})
	}
	for _, c := range faultCases() {
		if c.want != 0 {
			list = append(list, memoryCase{c.name, false, func(p *impl.Program, m *impl.Memory) { c.change(p) }})
		}
	}
	return list
}

// wantedBegin is what the document asks of Begin at a valid memory.
func wantedBegin(p impl.Program, m impl.Memory) impl.State {
	s := impl.State{Frames: make([]impl.Frame, 1)}
	for _, local := range p.Funcs[0].Locals {
		s.Frames[0].Locals = append(s.Frames[0].Locals, impl.Value{Type: local})
	}
	for i, words := range parts(&m) {
		var cells []impl.Value
		for k, w := range *words {
			if i == impl.RegionIn && p.Regions[i][k] == impl.TypeBool {
				w = min(w, 1)
			}
			cells = append(cells, impl.Value{Type: p.Regions[i][k], Word: w})
		}
		s.Cells = append(s.Cells, cells)
	}
	return s
}

func TestBeginAtMemories(t *testing.T) {
	for _, c := range memoryCases() {
		p, m := someProgram(), someMemory()
		c.change(&p, &m)
		p, m = roomyOf(p), roomyOf(m)
		programBefore, memoryBefore := wholeOf(p), wholeOf(m)
		want := impl.State{Trap: impl.TrapBad}
		if c.good {
			want = wantedBegin(p, m)
		}
		if got := impl.ValidMemory(p, m); got != c.good {
			t.Error(c.name, "valid:", got)
		}
		for _, limit := range []int64{0, -1, math.MinInt64} {
			if got := impl.Run(p, m, limit); !sameAnswers(got, want) {
				t.Error(c.name, "a run of no steps:", brief(got))
			}
		}
		got := impl.Begin(p, m)
		if !sameAnswers(got, want) {
			t.Errorf("%s: %s, not %s", c.name, brief(got), brief(want))
		}
		checkOwnMemory(t, c.name, []impl.State{got, impl.Begin(p, m), impl.Run(p, m, 5)}, p, m)
		if run := impl.Run(p, m, 3); !c.good && !sameAnswers(run, want) {
			t.Error(c.name, "runs:", brief(run))
		}
		if !reflect.DeepEqual(wholeOf(p), programBefore) || !reflect.DeepEqual(wholeOf(m), memoryBefore) {
			t.Error(c.name, "an argument was changed")
		}
	}
}

func TestBeginAtOddPrograms(t *testing.T) {
	for _, p := range oddPrograms() {
		for _, m := range []impl.Memory{{}, someMemory(), {In: []uint32{}, Out: []uint32{}, Keep: []uint32{}}} {
			if impl.ValidMemory(p, m) || !sameAnswers(impl.Begin(p, m), impl.State{Trap: impl.TrapBad}) || !sameAnswers(impl.Run(p, m, 9), impl.State{Trap: impl.TrapBad}) {
				t.Error("an odd program begins")
			}
		}
	}
}

func TestBeginAtTheLimits(t *testing.T) {
	p := fullProgram()
	m := impl.Memory{In: make([]uint32, impl.MaxCells), Out: make([]uint32, impl.MaxCells), Keep: make([]uint32, impl.MaxCells)}
	for i := range m.In {
		m.In[i], m.Out[i], m.Keep[i] = uint32(i), uint32(i%2), uint32(1-i%2)
	}
	if got := impl.Begin(p, m); !sameAnswers(got, wantedBegin(p, m)) || len(got.Frames[0].Locals) != impl.MaxLocals {
		t.Error(brief(got))
	}
	if got := impl.Run(p, m, 100); !got.Done || got.Steps != 2 || got.Cost != 4 {
		t.Error(got.Trap, got.Steps)
	}
}

func TestMemoryOfCells(t *testing.T) {
	p, m := someProgram(), someMemory()
	got := impl.MemoryOf(impl.Begin(p, m))
	want := copyOf(m)
	want.In[0] = 1
	if !sameAnswers(got, want) {
		t.Error(got)
	}
	// Nothing but the number of lists is looked at.
	odd := impl.State{Trap: -4, Done: true, Cells: [][]impl.Value{{{Type: -9, Word: 5}, boolOf(7)}, nil, {{Type: math.MaxInt64, Word: math.MaxUint32}}}}
	want = impl.Memory{In: []uint32{5, 7}, Keep: []uint32{math.MaxUint32}}
	if got := impl.MemoryOf(odd); !sameAnswers(got, want) {
		t.Error(got)
	}
	odd.Cells = append(odd.Cells, nil)
	for n := range 5 {
		odd.Cells = odd.Cells[:4-n]
		if got := impl.MemoryOf(odd); len(odd.Cells) != 3 && !sameAnswers(got, impl.Memory{}) {
			t.Error(len(odd.Cells), "lists:", got)
		}
	}
}

func TestMemoryOfAnswersNewMemory(t *testing.T) {
	for _, s := range append(oddStates(), atWork(), filled(impl.MaxStack), impl.Begin(someProgram(), someMemory())) {
		s = roomyOf(s)
		before := wholeOf(s)
		first, again := impl.MemoryOf(s), impl.MemoryOf(s)
		if !reflect.DeepEqual(first, again) || !reflect.DeepEqual(wholeOf(s), before) {
			t.Error("a state was changed, or answered otherwise")
		}
		checkOwnMemory(t, "MemoryOf", []impl.Memory{first, again}, s)
	}
}

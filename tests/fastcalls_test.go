package tests

import (
	"fmt"
	"slices"
	"strings"
	"testing"

	"loop.example/s02548/impl"
)

// checkOut: the first outputs behind a fast scan, and all against the checked machine.
func checkOut(t *testing.T, what string, p impl.Program, m impl.Memory, want ...uint32) {
	t.Helper()
	got := checkFast(t, what, p, m)
	if len(got.Out) < len(want) || !slices.Equal(got.Out[:len(want)], want) {
		t.Errorf("%s with %v: %v, not %v", what, m, got.Out, want)
	}
}

// Parameters, results, and locals that are a call's own.
func TestFastCalls(t *testing.T) {
	for _, x := range []struct {
		want  []uint32
		texts []string
	}{
		{[]uint32{994}, []string{"const:7 const:2 call:1 store:1:0 r", "uu>u loadlocal:0 loadlocal:1 sub:3 r"}},
		{[]uint32{994}, []string{"const:7 const:2 call:2 store:1:0 r", "r", "uu>u loadlocal:0 loadlocal:1 sub:3 r"}},
		// What stands below stays there.
		{[]uint32{994, 5, 2}, []string{"const:5 const:6 const:7 const:2 call:1 store:1:0 store:1:1 store:1:2 r", "uu>u loadlocal:0 loadlocal:1 sub:3 r"}},
		{[]uint32{0, 5, 2}, []string{"const:5 const:6 const:7 const:2 call:1 store:1:1 store:1:2 r", "uu> r"}},
		{[]uint32{7, 5, 2}, []string{"const:5 const:6 call:1 store:1:0 store:1:1 store:1:2 r", ">u i neg conv:2:3 r"}},
		// Results of each type.
		{[]uint32{0, 0, 0, 0, 1}, []string{"call:1 store:1:4 r", ">b b r"}},
		{[]uint32{1, 0, 0, 0, 0}, []string{"call:1 store:1:4 call:2 z@a const:4 store:1:0 @a r", ">b b not:1 r", ">b b r"}},
		{[]uint32{0xfffffff9}, []string{"call:1 conv:2:3 store:1:0 r", ">i i r"}},
		// A callee begins with zeros behind its parameters, whatever was there.
		{[]uint32{0, 0}, []string{"call:1 call:1 r", "loadlocal:0 store:1:0 loadlocal:3 store:1:1 u storelocal:0 u storelocal:3 b storelocal:4 r"}},
		{[]uint32{0, 0, 6}, []string{"call:1 u call:2 r", "u storelocal:0 u storelocal:1 u storelocal:2 u storelocal:3 b storelocal:4 r", "u> loadlocal:1 store:1:0 loadlocal:4 store:1:1 loadlocal:0 store:1:2 r"}},
		{[]uint32{0, 1000}, []string{"const:6 const:7 call:1 const:7 call:2 r", "uu> u storelocal:2 u storelocal:3 u storelocal:4 u storelocal:5 b storelocal:6 r", "u> loadlocal:1 store:1:0 loadlocal:0 store:1:1 r"}},
		// A caller's locals stay as they are; a callee's parameters are its own.
		{[]uint32{1000, 5, 7}, []string{"const:7 storelocal:0 const:6 storelocal:3 loadlocal:0 call:1 loadlocal:0 store:1:0 loadlocal:3 store:1:1 r", "u> u storelocal:0 const:2 storelocal:4 loadlocal:0 const:4 add:3 store:1:2 r"}},
		{[]uint32{1, 2, 5, 6}, []string{"const:4 storelocal:0 call:1 loadlocal:0 store:1:0 r", "const:5 storelocal:0 call:2 loadlocal:0 store:1:1 r", "const:6 storelocal:0 call:3 loadlocal:0 store:1:2 r", "u storelocal:0 loadlocal:0 store:1:3 r"}},
		// A counter of a caller, and one of a callee, that have the same number.
		{[]uint32{10, 5}, []string{
			"const:6 storelocal:0 @h guard:0:@o call:1 load:1:1 const:4 add:3 store:1:1 j@h @o r !h:0:5",
			"const:5 storelocal:0 @h guard:0:@o load:1:0 const:4 add:3 store:1:0 j@h @o r !h:0:2"}},
		// A return from within a loop, whose counter is left as it was.
		{[]uint32{3, 0}, []string{
			"const:6 storelocal:0 @h guard:0:@o call:1 x load:1:0 const:4 add:3 d store:1:0 const:5 const:4 add:3 eq:3 z@h r @o r !h:0:5",
			">u const:6 storelocal:0 @h guard:0:@o loadlocal:1 store:1:1 const:7 storelocal:1 load:0:0 z@h u r @o u r !h:0:5"}},
	} {
		p := several(x.texts...)
		m := lean(p)
		m.In[0] = 1
		if r := impl.Check(p); r.Code != 0 {
			t.Fatalf("%q: %s", x.texts, loadText(r))
		}
		checkOut(t, fmt.Sprint(x.texts), p, m, x.want...)
	}
}

// As many parameters and locals as there may be, each with a word of its own.
func TestFastLocals(t *testing.T) {
	for params := 0; params <= impl.MaxParams; params++ {
		for _, locals := range []int{params, params + 1, 20, impl.MaxLocals} {
			p := impl.Program{Regions: [][]int64{slices.Repeat([]int64{3}, 8), slices.Repeat([]int64{3}, 64), nil}}
			p.Consts = []impl.Const{{Type: 3, Word: 100}, {Type: 3, Word: 1}}
			caller := []impl.Instr{}
			for n := range impl.MaxLocals {
				caller = append(caller, instr(impl.OpConst, 0), instr(impl.OpStoreLocal, int64(n)))
			}
			for n := range params {
				caller = append(caller, instr(impl.OpLoad, 0, int64(n)))
			}
			caller = append(caller, instr(impl.OpCall, 1))
			for n := range impl.MaxLocals {
				caller = append(caller, instr(impl.OpLoadLocal, int64(n)), instr(impl.OpStore, 1, int64(32+n)))
			}
			callee := []impl.Instr{}
			for n := range locals {
				callee = append(callee, instr(impl.OpLoadLocal, int64(n)), instr(impl.OpStore, 1, int64(n)), instr(impl.OpConst, 1), instr(impl.OpStoreLocal, int64(n)))
			}
			p.Funcs = []impl.Func{{Locals: slices.Repeat([]int64{3}, impl.MaxLocals), Code: append(caller, ret())}, {Params: slices.Repeat([]int64{3}, params), Locals: slices.Repeat([]int64{3}, locals-params), Code: append(callee, ret())}}
			m := lean(p)
			m.In = numbered(8, 40)
			for n := range m.Out {
				m.Out[n] = 9
			}
			want := slices.Clone(m.Out)
			for n := range locals {
				want[n] = 0
				if n < params {
					want[n] = 40 + uint32(n)
				}
			}
			for n := range impl.MaxLocals {
				want[32+n] = 100
			}
			checkOut(t, fmt.Sprint(params, " parameters of ", locals), p, m, want...)
		}
	}
}

// adding is a tower of calls: each level leaves so many values below, calls the next one with a number, and adds what is left to what comes back; each has the most locals, all set.
func adding(levels int, left int) impl.Program {
	p := impl.Program{Regions: [][]int64{{3}, {3}, {3}}}
	p.Consts = []impl.Const{{Type: 3, Word: 1}, {Type: 3, Word: 7}}
	for f := range levels {
		own := impl.Func{Params: []int64{3}, Result: 3, Locals: slices.Repeat([]int64{3}, impl.MaxLocals-1)}
		var code []impl.Instr
		if f == 0 {
			own.Params, own.Result, own.Locals = nil, 0, slices.Repeat([]int64{3}, impl.MaxLocals)
			code = append(code, instr(impl.OpLoad, 0, 0), instr(impl.OpStoreLocal, 0))
		}
		// Each local is its number more than the first one.
		for n := 1; n < impl.MaxLocals; n++ {
			code = append(code, instr(impl.OpLoadLocal, int64(n-1)), instr(impl.OpConst, 0), instr(impl.OpAdd, 3), instr(impl.OpStoreLocal, int64(n)))
		}
		for n := range left {
			code = append(code, instr(impl.OpLoadLocal, int64(n)))
		}
		code = append(code, instr(impl.OpLoadLocal, 31))
		if f+1 < levels {
			code = append(code, instr(impl.OpConst, 1), instr(impl.OpMul, 3), instr(impl.OpCall, int64(f+1)))
		}
		for range left {
			code = append(code, instr(impl.OpAdd, 3))
		}
		code = append(code, instr(impl.OpLoadLocal, 31), instr(impl.OpAdd, 3))
		if f == 0 {
			code = append(code, instr(impl.OpStore, 1, 0))
		}
		own.Code = append(code, ret())
		p.Funcs = append(p.Funcs, own)
	}
	return p
}

// added is what comes out of it.
func added(levels int, left int, first uint32) uint32 {
	last := first + 31
	sum := last
	for n := range left {
		sum += first + uint32(n)
	}
	if levels == 1 {
		return sum + last
	}
	return sum + added(levels-1, left, last*7)
}

func TestFastCallsToAllLevels(t *testing.T) {
	t.Parallel()
	for _, levels := range []int{1, 2, 3, 4, 7, 16, 30, 31, impl.MaxFuncs} {
		for left := range 3 {
			p := adding(levels, left)
			r := impl.Check(p)
			if high := levels*left+2 > impl.MaxStack; high != (r.Code != 0) {
				t.Fatal(levels, left, loadText(r))
			}
			if r.Code != 0 {
				continue
			}
			for _, word := range []uint32{0, 77, 0xffffffff} {
				m := lean(p)
				m.In[0] = word
				checkOut(t, fmt.Sprint(levels, " levels with ", left), p, m, added(levels, left, word))
			}
		}
	}
}

// At the greatest heights, with values below that are asked for behind the call.
func TestFastAtHeights(t *testing.T) {
	t.Parallel()
	// To add one up takes two more.
	for below := 0; below <= impl.MaxStack-2; below++ {
		for _, height := range []int{impl.MaxStack - below, (impl.MaxStack - below) / 2} {
			pushes := some("load:0:1 loadlocal:0 add:3 d storelocal:0", below)
			sums := "storelocal:1 loadlocal:1 load:2:0 const:6 mul:3 add:3 store:2:0 "
			first := pushes + "call:1 " + strings.Repeat(sums, below) + "r"
			p := several(first, some("u", height)+some("x", height)+"r")
			m := lean(p)
			m.In[1] = 3
			r := impl.Check(p)
			if r.Code != 0 {
				t.Fatal(below, height, loadText(r))
			}
			got := checkFast(t, fmt.Sprint(below, " below ", height), p, m)
			want := uint32(0)
			for n := below; n > 0; n-- {
				want = uint32(3*n) + want*5
			}
			if got.Keep[0] != want {
				t.Errorf("%d below %d: %v, not %d", below, height, got.Keep, want)
			}
		}
	}
}

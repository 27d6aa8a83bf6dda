package tests

import (
	"bytes"
	"fmt"
	"slices"
	"testing"

	"loop.example/s02548/impl"
)

// checkGoOn: some scans one behind the other, each from the memory behind the one ahead of it, with inputs by chance; whether they changed anything.
func (d *dice) checkGoOn(t *testing.T, what string, p impl.Program, bound int64, m impl.Memory) bool {
	t.Helper()
	differ := false
	for range 2 {
		behind := checkSame(t, what, p, bound, m)
		differ = differ || !slices.Equal(behind.Out, m.Out) || !slices.Equal(behind.Keep, m.Keep)
		m = behind
		m.In = d.memory(p).In
	}
	return differ
}

// Programs by chance that pass, with many memories: fast is checked.
func TestFastOfManyPrograms(t *testing.T) {
	t.Parallel()
	d := dice(103)
	seen := newSights()
	differ := 0
	for round := range 300 {
		p := d.certifiedProgram(round%6 == 0)
		if longest(p) > 200 || len(p.Certs) > impl.MaxCerts {
			continue
		}
		r := impl.Check(p)
		if r.Code != 0 || r.Bound > 20000 {
			continue
		}
		for n, m := range d.memories(p, 5) {
			if d.checkGoOn(t, fmt.Sprint("round ", round), p, r.Bound, m) {
				differ++
			}
			seen.runs++
			seen.steps = max(seen.steps, impl.Run(p, m, mostSteps).Steps)
			if n < 2 {
				seen.follow(p, m)
			}
		}
	}
	seen.check(t, 600, 20)
	if differ < 400 {
		t.Error("scans that change something:", differ, "of", seen.runs)
	}
}

// shuffled are programs of code without loops, of cells, locals, parameters and results of all types.
func (d *dice) shuffled() impl.Program {
	p := d.program()
	for n := range p.Funcs {
		f := &p.Funcs[n]
		k := &coder{dice: d, p: p, f: *f}
		for range 10 + d.next(30) {
			before, shape := len(k.code), append([]int64{}, k.shape...)
			k.straight()
			for _, i := range k.code[before:] {
				if i.Op == impl.OpCall && i.A <= int64(n) || len(k.shape) > 12 {
					k.code, k.shape = k.code[:before], shape
					break
				}
			}
			// What was come to is to be seen.
			if len(k.shape) > 0 && d.next(3) == 0 {
				k.keep()
			}
		}
		k.become(resultTypes(k.f))
		k.put(ret())
		f.Code = k.code
	}
	return p
}

// keep stores the value on top in a cell of its type, if there is one.
func (k *coder) keep() {
	top := k.shape[len(k.shape)-1]
	for range 20 {
		region := 1 + k.number(2)
		cell := k.number(len(k.p.Regions[region]))
		if k.p.Regions[region][cell] == top {
			k.put(instr(impl.OpStore, region, cell))
			return
		}
	}
}

func TestFastOfManyTypes(t *testing.T) {
	t.Parallel()
	d := dice(107)
	passed, differ := 0, 0
	ops := map[int64]int{}
	for round := range 500 {
		p := d.shuffled()
		if impl.ProgramFault(p) != 0 {
			t.Fatal("a fault in round", round, impl.ProgramFault(p))
		}
		r := impl.Check(p)
		if r.Code != 0 || r.Bound > mostSteps {
			continue
		}
		passed++
		for _, i := range p.Funcs[0].Code {
			ops[i.Op]++
		}
		for _, m := range d.memories(p, 3) {
			if d.checkGoOn(t, fmt.Sprint("round ", round), p, r.Bound, m) {
				differ++
			}
		}
		checkFlat(t, fmt.Sprint("round ", round), p)
	}
	if passed < 200 || differ < 600 {
		t.Error("passed", passed, "changed something", differ)
	}
	for op := range int64(impl.MaxOp + 1) {
		if ops[op] < 30 && op != impl.OpJump && op != impl.OpJumpZero && op != impl.OpGuard {
			t.Error("seldom", impl.Info(op).Name, ops[op])
		}
	}
}

// Programs that were changed somewhere: those that still pass run fast as they run checked, the others do not run.
func TestFastOfManyChangedPrograms(t *testing.T) {
	t.Parallel()
	d := dice(109)
	ran, refused := 0, map[int64]int{}
	for round := range 2000 {
		p := d.certifiedProgram(false)
		if longest(p) > 60 || len(p.Certs) > impl.MaxCerts {
			continue
		}
		for range 1 + d.next(3) {
			d.spoilBound(&p)
		}
		r := impl.Check(p)
		if r.Bound > 100000 || len(p.Regions) != 3 {
			continue
		}
		for _, m := range d.memories(p, 2) {
			got := checkFast(t, fmt.Sprint("round ", round), p, m)
			if r.Code != 0 {
				refused[r.Sub]++
				if len(got.In)+len(got.Out)+len(got.Keep) != 0 {
					t.Fatal("it runs in round", round)
				}
			} else {
				ran++
			}
		}
	}
	if ran < 200 || refused[4] < 100 || refused[5] < 100 {
		t.Error("ran", ran, "refused", refused)
	}
}

// Bytes with one bit turned and a good sum: those that Load lets pass are what their program is encoded to, and it runs to its end, fast as checked.
func TestFastOfBytesThatPass(t *testing.T) {
	t.Parallel()
	d := dice(113)
	passed, ran := 0, 0
	for _, p := range []impl.Program{leastProgram(), passing(), several("load:0:1 u less:3 z@a load:2:0 u add:3 store:2:0 @a load:0:1 store:1:2 call:1 r", "u storelocal:0 @h guard:0:@o load:2:1 u mul:3 store:2:1 j@h @o r !h:0:6")} {
		body := bodyOf(p)
		for bit := 32; bit < 8*len(body); bit++ {
			body[bit/8] ^= 1 << (bit % 8)
			b := summed(body)
			r := impl.Load(b)
			if r.Code == 0 {
				passed++
				if !bytes.Equal(impl.Encode(r.Program), b) || !impl.SameProgram(impl.Decode(b).Program, r.Program) {
					t.Fatalf("bit %d: other bytes", bit)
				}
				for _, m := range d.memories(r.Program, 2) {
					s := impl.Run(r.Program, m, mostSteps)
					if s.Trap != 0 || s.Cost > r.Bound || s.Steps < mostSteps && !s.Done {
						t.Fatalf("bit %d: the bound is %d, but %s", bit, r.Bound, brief(s))
					}
					if r.Bound > impl.MaxRun || !s.Done {
						continue
					}
					checkFast(t, fmt.Sprint("bit ", bit), r.Program, m)
					inputs := [][]uint32{m.In, m.In}
					if got, want := impl.Scans(b, inputs), wantedScans(b, inputs); !sameAnswers(got, want) {
						t.Fatalf("bit %d: %+v, not %+v", bit, got, want)
					}
					ran++
				}
			}
			body[bit/8] ^= 1 << (bit % 8)
		}
	}
	if passed < 200 || ran < 400 {
		t.Error("passed", passed, "ran", ran)
	}
}

// All code of four of these words, with inputs of both kinds: what passes runs fast as it does checked.
func TestFastOfAllShortCode(t *testing.T) {
	t.Parallel()
	words := []string{"load:0:0", "u", "x", "d", "store:1:0", "not:1", "eq:3", "z2", "z4", "j3", "call:1", "call:2", "storelocal:4", "store:1:4", "guard:0:3"}
	p := several("r", "b>u loadlocal:0 conv:1:3 load:0:1 add:3 r", ">b load:0:0 not:1 r")
	passed := 0
	for length := 1; length <= 4; length++ {
		eachWords(length, words, func(code []impl.Instr) {
			code = append(code, ret())
			for _, i := range code {
				if named(i) && i.C >= int64(len(code)) {
					return
				}
			}
			p.Funcs[0].Code = code
			if impl.Check(p).Code != 0 {
				return
			}
			passed++
			for _, input := range []uint32{0, 5} {
				m := impl.Memory{In: []uint32{input, 9}, Out: []uint32{3, 4, 5, 6, 1}, Keep: []uint32{7, 8}}
				checkFast(t, textOf(code), p, m)
			}
		})
	}
	if passed < 300 {
		t.Error("passed", passed)
	}
}

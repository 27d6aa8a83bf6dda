package tests

import (
	"testing"

	"loop.example/s02548/impl"
)

// eachCode visits all codes of so many instructions, each nop, return, or a jump or jumpzero to any of them.
func eachCode(length int, visit func([]impl.Instr)) {
	code := make([]impl.Instr, length)
	var choose func(at int)
	choose = func(at int) {
		if at == length {
			visit(code)
			return
		}
		for _, op := range []int64{impl.OpNop, impl.OpReturn} {
			code[at] = impl.Instr{Op: op}
			choose(at + 1)
		}
		for _, op := range []int64{impl.OpJump, impl.OpJumpZero} {
			for to := range int64(length) {
				code[at] = impl.Instr{Op: op, C: to}
				choose(at + 1)
			}
		}
	}
	choose(0)
}

func TestFlowOfAllShortCode(t *testing.T) {
	codes := map[int64]int{}
	for length := 1; length <= 4; length++ {
		eachCode(length, func(code []impl.Instr) {
			checkCut(t, code)
			codes[checkFlow(t, code).Code]++
		})
	}
	if codes[0] < 500 || codes[1] < 1000 || codes[2] < 1000 || codes[3] < 30 {
		t.Error("seldom:", codes)
	}
}

// branches is code with many ways: most instructions name another one.
func (d *dice) branches(length int, far int) []impl.Instr {
	code := make([]impl.Instr, length)
	for at := range code {
		to := min(max(at-far+d.next(2*far+1), 0), length-1)
		op := []int64{impl.OpNop, impl.OpNop, impl.OpJumpZero, impl.OpGuard, impl.OpJumpZero, impl.OpJump, impl.OpReturn}[min(d.next(25)/4, 6)]
		code[at] = impl.Instr{Op: op, C: int64(to)}
	}
	code[length-1].Op = impl.OpJump + 4*d.number(2)
	return code
}

// nested is code of branches and loops one within another and beside one another, some with several backs and ways out.
func (d *dice) nested(level int, at int) []impl.Instr {
	var code []impl.Instr
	put := func(op int64) int {
		code = append(code, impl.Instr{Op: op})
		return len(code) - 1
	}
	for range 1 + d.next(3) {
		here := at + len(code)
		switch kind := d.next(6); {
		case level == 0 || kind == 0:
			put(impl.OpNop)
		case kind == 1: // a branch with two sides
			test := put(impl.OpJumpZero)
			code = append(code, d.nested(level-1, at+len(code))...)
			over := put(impl.OpJump)
			code[test].C = int64(at + len(code))
			code = append(code, d.nested(level-1, at+len(code))...)
			code[over].C = int64(at + len(code))
		case kind <= 4: // a loop that is left at its head, and gone back to from one or two places
			guard := put(impl.OpGuard)
			code = append(code, d.nested(level-1, at+len(code))...)
			if kind == 4 {
				code[put(impl.OpJumpZero)].C = int64(here)
				code = append(code, d.nested(level-1, at+len(code))...)
			}
			leave := -1
			if d.next(2) == 0 {
				leave = put(impl.OpJumpZero)
			}
			code[put(impl.OpJump)].C = int64(here)
			code[guard].C = int64(at + len(code))
			if leave >= 0 {
				code[leave].C = int64(at + len(code))
			}
		default: // a loop that is left at its end
			code = append(code, d.nested(level-1, at+len(code))...)
			code[put(impl.OpJumpZero)].C = int64(here)
		}
	}
	return code
}

// checkLoops: a loop is what can come back to its head without going out, and is come into at its head alone.
func checkLoops(t *testing.T, code []impl.Instr, f impl.Flow) {
	t.Helper()
	turned := turnedRound(f.Blocks)
	for _, l := range f.Loops {
		in := make([]bool, len(f.Blocks))
		for _, b := range l.Blocks {
			in[b] = true
		}
		inner := make([]impl.Block, len(f.Blocks))
		for b, block := range f.Blocks {
			for _, n := range block.Next {
				if in[b] && in[n] {
					inner[b].Next = append(inner[b].Next, n)
				}
			}
		}
		for _, b := range l.Blocks {
			for _, s := range turned[b].Next {
				if b != l.Head && !in[s] {
					t.Fatalf("of %s: from %d into the loop of %d at %d", textOf(code), s, l.Head, b)
				}
			}
			if !comeTo(inner, -1, inner[b].Next...)[l.Head] {
				t.Fatalf("of %s: from %d there is no way to the head %d within the loop", textOf(code), b, l.Head)
			}
		}
	}
}

func TestFlowOfManyCodes(t *testing.T) {
	d := dice(17)
	codes := map[int64]int{}
	for range 6000 {
		length := 5 + d.next(14)
		code := d.branches(length, 1+d.next(length))
		checkCut(t, code)
		codes[checkFlow(t, code).Code]++
	}
	if codes[0] < 50 || codes[2] < 1000 || codes[3] < 300 {
		t.Error("seldom:", codes)
	}
}

func TestFlowOfManyLoops(t *testing.T) {
	d := dice(23)
	most, deepest := 0, 0
	for range 1500 {
		code := append(d.nested(1+d.next(4), 0), ret())
		if len(code) > 150 {
			continue
		}
		f := checkFlow(t, code)
		if f.Code != 0 {
			t.Fatalf("of %s: code %d at %d", textOf(code), f.Code, f.At)
		}
		checkLoops(t, code, f)
		most = max(most, len(f.Loops))
		for b := range f.Blocks {
			within := 0
			for _, l := range f.Loops {
				for _, n := range l.Blocks {
					if n == int64(b) {
						within++
					}
				}
			}
			deepest = max(deepest, within)
		}
	}
	if most < 10 || deepest < 4 {
		t.Error("loops", most, "levels", deepest)
	}
}

// Code of the greatest length in which all blocks lead back: it is told soon too.
func TestFlowOfLongCode(t *testing.T) {
	d := dice(29)
	nest := make([]impl.Instr, impl.MaxCode)
	ladder := make([]impl.Instr, impl.MaxCode)
	for at := range nest {
		half := int64(len(nest) / 2)
		nest[at] = impl.Instr{Op: impl.OpJumpZero, C: max(int64(len(nest)-1-at), 0)}
		if int64(at) < half {
			nest[at] = impl.Instr{Op: impl.OpGuard, C: int64(len(nest) - 1)}
		}
		ladder[at] = impl.Instr{Op: impl.OpJumpZero, C: max(int64(at)-2, 0)}
		if at%2 == 0 {
			ladder[at].C = min(int64(at)+3, int64(len(nest)-1))
		}
	}
	nest[len(nest)-1], ladder[len(ladder)-1] = ret(), ret()
	if f := checkFlow(t, nest); f.Code != 0 || len(f.Loops) < 500 {
		t.Error("nest:", f.Code, f.At, len(f.Loops))
	}
	if f := checkFlow(t, ladder); f.Code != 3 {
		t.Error("ladder:", f.Code, f.At)
	}
	for range 3 {
		checkFlow(t, d.branches(impl.MaxCode, 30))
	}
	var long []impl.Instr
	for len(long) < 300 || len(long) >= impl.MaxCode {
		long = d.nested(6, 0)
	}
	checkFlow(t, append(long, ret()))
}

package tests

import (
	"fmt"
	"slices"
	"testing"

	"loop.example/s02548/impl"
)

// oneOther changes one shape of one function: a type more, one less, or another one.
func (d *dice) oneOther(shapes [][][]int64) [][][]int64 {
	other := slices.Clone(shapes)
	f := d.next(len(shapes))
	if len(shapes[f]) == 0 {
		other[f] = [][]int64{nil}
		return other
	}
	other[f] = slices.Clone(shapes[f])
	at := d.next(len(shapes[f]))
	shape := slices.Clone(shapes[f][at])
	place := d.next(len(shape) + 1)
	switch kind := d.next(3); {
	case kind == 0 || place == len(shape):
		shape = slices.Insert(shape, place, d.number(3)+1)
	case kind == 1:
		shape = slices.Delete(shape, place, place+1)
	default:
		shape[place] = shape[place]%3 + 1
	}
	other[f][at] = shape
	return other
}

func TestHoldsOfManyPrograms(t *testing.T) {
	t.Parallel()
	d := dice(101)
	passed, refused := 0, map[int64]int{}
	for round := range 3000 {
		p := d.certifiedProgram(false)
		if longest(p) > 70 || len(p.Certs) > impl.MaxCerts {
			continue
		}
		for range d.next(3) {
			d.spoilBound(&p)
		}
		what := fmt.Sprint("round ", round)
		shapes := shapesOf(p)
		if checkFound(t, what, p) {
			passed++
		} else {
			refused[impl.Check(p).Sub]++
		}
		if impl.ProgramFault(p) != 0 {
			continue
		}
		for range 4 {
			if checkHolds(t, what, p, d.oneOther(shapes)) {
				t.Fatalf("round %d: others hold", round)
			}
		}
	}
	if passed < 300 {
		t.Error("passed", passed)
	}
	for _, sub := range []int64{2, 3, 4, 5, 6} {
		if refused[sub] < 10 {
			t.Error("seldom:", sub, refused)
		}
	}
}

// All short code and all low shapes: a program passes just if some of these hold, and then just one list does.
func TestAllShapesOfAllShortPrograms(t *testing.T) {
	t.Parallel()
	low := [][]int64{nil, {1}, {3}, {3, 1}}
	words := []string{"b", "u", "x", "d", "n", "r", "call:1", "call:2", "storelocal:0", "guard:0:2", "j2", "z2", "z0", "guard:0:3", "j3", "guard:0:1", "j1"}
	p := several("r", "b>u u r", "u> b call:1 x r")
	others := shapesOf(p)[1:]
	passed, refused := 0, map[int64]int{}
	for length := 1; length <= 4; length++ {
		eachWords(length-1, words, func(code []impl.Instr) {
			code = append(code, ret())
			for _, i := range code {
				if named(i) && !within(i.C, length) {
					return
				}
			}
			p.Funcs[0].Code, p.Certs = code, nil
			flow := impl.FlowOf(code)
			for _, l := range flow.Loops {
				p.Certs = append(p.Certs, impl.Cert{Head: flow.Blocks[l.Head].First, Init: 6})
			}
			r := impl.Check(p)
			held := 0
			// What has no flow or a loop that is not bounded is refused ahead of all shapes: a few are enough.
			from := low
			if r.Sub == 3 || r.Sub == 5 {
				from = low[:2]
			}
			eachShapes(length, from, func(shapes [][]int64) {
				if impl.Holds(p, slices.Insert(slices.Clone(others), 0, shapes)) {
					held++
				}
			})
			refused[r.Sub]++
			high := r.Code == 0 && slices.ContainsFunc(impl.TypesOf(p, 0).Shapes, func(shape []int64) bool {
				return !slices.ContainsFunc(low, func(x []int64) bool { return slices.Equal(x, shape) })
			})
			switch {
			case high && held != 0, !high && (held == 1) != (r.Code == 0), held > 1:
				t.Fatalf("of %s: %s, but %d shapes hold", textOf(code), loadText(r), held)
			case held == 1:
				passed++
			}
		})
	}
	if passed < 30 || refused[3] < 100 || refused[4] < 500 || refused[5] < 50 {
		t.Error("passed", passed, "refused", refused)
	}
}

// Loops behind the setting of a counter: with certificates of just these, some shapes hold just if it passes.
func TestHoldsOfAllShortLoops(t *testing.T) {
	t.Parallel()
	passed, refused := 0, 0
	eachLooped(func(code []impl.Instr) {
		flow := impl.FlowOf(code)
		if flow.Code != 0 || len(flow.Loops) == 0 {
			return
		}
		p := several("r")
		p.Funcs[0].Code = code
		for _, l := range flow.Loops {
			head := flow.Blocks[l.Head].First
			p.Certs = append(p.Certs, impl.Cert{Head: head, Counter: code[head].A & 3, Init: 6})
		}
		if checkFound(t, textOf(code), p) {
			passed++
		} else {
			refused++
		}
		// With one certificate less, or one that is no loop's, none do.
		few := p
		few.Certs = p.Certs[1:]
		more := p
		more.Certs = append([]impl.Cert{{Head: 0, Init: 6}}, p.Certs...)
		if impl.Holds(few, shapesOf(p)) || p.Certs[0].Head > 0 && impl.Holds(more, shapesOf(p)) {
			t.Fatalf("of %s: it holds with other certificates", textOf(code))
		}
	})
	if passed < 20 || refused < 100 {
		t.Error("passed", passed, "refused", refused)
	}
}

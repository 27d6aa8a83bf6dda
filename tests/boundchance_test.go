package tests

import (
	"fmt"
	"slices"
	"testing"

	"loop.example/s02548/impl"
)

const counters = 5

// goal is a place to which jumps lead that is not known yet, or is; there the stack has this shape.
type goal struct {
	uses  []int
	shape []int64
}

// certifier writes code of a function whose loops all have certificates. Its first locals are the counters.
type certifier struct {
	coder
	own   int64
	calls []int64
	certs []impl.Cert
	outer []*goal
	plain bool
}

func (k *certifier) leave(g *goal, i impl.Instr) { g.uses = append(g.uses, k.put(i)) }

func (k *certifier) arrive(g *goal) {
	for _, use := range g.uses {
		k.code[use].C = k.here()
	}
	k.shape = slices.Clone(g.shape)
}

// chance pushes a truth that changes from time to time: a kept cell is counted up.
func (k *certifier) chance() {
	for _, i := range worded("load:2:0 const:4 add:3 d store:2:0") {
		k.put(i)
	}
	k.put(instr(impl.OpConst, 4+k.number(2)))
	for _, i := range worded("and:3 conv:3:1") {
		k.put(i)
	}
}

// plainly is any instruction that leads nowhere else and writes to no counter, or a call of one of those that may be called.
func (k *certifier) plainly() {
	before, shape := len(k.code), slices.Clone(k.shape)
	k.straight()
	for _, i := range k.code[before:] {
		if i.Op == impl.OpStoreLocal && i.A < counters || i.Op == impl.OpCall || len(k.shape) > 20 {
			k.code, k.shape = k.code[:before], shape
			break
		}
	}
	if len(k.calls) > 0 && k.next(8) == 0 {
		f := k.calls[k.next(len(k.calls))]
		for _, n := range k.p.Funcs[f].Params {
			k.put(push(n))
		}
		k.put(instr(impl.OpCall, f))
	}
}

// enter sets the counter by one block or by two.
func (k *certifier) enter(constant int64, counter int64) {
	set := func() {
		k.put(instr(impl.OpConst, constant))
		k.put(instr(impl.OpStoreLocal, counter))
	}
	if !k.plain && k.next(4) == 0 {
		other, head := &goal{shape: slices.Clone(k.shape)}, &goal{shape: slices.Clone(k.shape)}
		k.chance()
		k.leave(other, instr(impl.OpJumpZero))
		set()
		k.leave(head, instr(impl.OpJump))
		k.arrive(other)
		set()
		if k.next(2) == 0 {
			k.leave(head, instr(impl.OpJump))
		}
		k.arrive(head)
		return
	}
	set()
	if k.next(3) == 0 {
		k.put(instr(impl.OpJump, 0, 0, k.here()+1))
	}
}

// astray leads out of loops, or back to their heads, or ends all.
func (k *certifier) astray() {
	shape := slices.Clone(k.shape)
	if len(k.outer) == 0 || k.next(6) == 0 {
		on := &goal{shape: shape}
		k.chance()
		k.leave(on, instr(impl.OpJumpZero))
		k.become(resultTypes(k.f))
		k.put(ret())
		k.arrive(on)
		return
	}
	g := k.outer[k.next(len(k.outer))]
	k.become(g.shape)
	k.chance()
	k.leave(g, instr(impl.OpJumpZero))
	k.become(shape)
}

func (k *certifier) loop(level int) {
	constant := []int64{2, 3, 4, 5, 6}[k.next(5)]
	counter := int64(level - 1)
	k.enter(constant, counter)
	head, out := &goal{shape: slices.Clone(k.shape)}, &goal{shape: slices.Clone(k.shape)}
	at := k.here()
	k.leave(out, instr(impl.OpGuard, counter))
	k.certs = append(k.certs, impl.Cert{Func: k.own, Head: at, Counter: counter, Init: k.p.Consts[constant].Word})
	k.outer = append(k.outer, head, out)
	k.some(level - 1)
	k.outer = k.outer[:len(k.outer)-2]
	k.become(head.shape)
	k.leave(head, instr(impl.OpJump))
	for _, use := range head.uses {
		k.code[use].C = at
	}
	k.arrive(out)
}

func (k *certifier) some(level int) {
	for range 1 + k.next(3) {
		switch kind := k.next(8); {
		case level > 0 && kind < 3:
			k.loop(level)
		case level > 0 && kind == 3 && !k.plain:
			shape := slices.Clone(k.shape)
			other, both := &goal{shape: shape}, &goal{}
			k.chance()
			k.leave(other, instr(impl.OpJumpZero))
			k.some(level - 1)
			both.shape = slices.Clone(k.shape)
			k.leave(both, instr(impl.OpJump))
			k.arrive(other)
			k.some(level - 1)
			k.become(both.shape)
			k.arrive(both)
		case kind == 4 && !k.plain:
			k.astray()
		default:
			k.plainly()
		}
	}
}

// certifiedProgram is one that has a bound; plain: without branches, so that each run of it costs just that.
func (d *dice) certifiedProgram(plain bool) impl.Program {
	p := several("r", "r", "r", "r")
	for f := range p.Funcs {
		p.Funcs[f].Locals = append(slices.Repeat([]int64{3}, counters), 1, 2, 3)
	}
	for _, f := range []int{1, 2, 3} {
		// The counters stay the first locals: parameters are of uint.
		p.Funcs[f].Params, p.Funcs[f].Result = slices.Repeat([]int64{3}, d.next(3)), d.number(4)
		p.Funcs[f].Locals = p.Funcs[f].Locals[len(p.Funcs[f].Params):]
	}
	// Each may call those that stand behind it in this order.
	order := [][]int64{{0, 1, 2, 3}, {0, 3, 1, 2}, {1, 0, 2, 3}, {3, 2, 1, 0}}[d.next(4)]
	for place, f := range order {
		k := &certifier{coder: coder{dice: d, p: p, f: p.Funcs[f]}, own: f, calls: order[place+1:], plain: plain}
		k.some(1 + d.next(3))
		k.become(resultTypes(k.f))
		k.put(ret())
		p.Funcs[f].Code = k.code
		p.Certs = append(p.Certs, k.certs...)
	}
	slices.SortFunc(p.Certs, func(a, b impl.Cert) int { return int(a.Func-b.Func)<<12 + int(a.Head-b.Head) })
	return p
}

func longest(p impl.Program) int {
	most := 0
	for _, f := range p.Funcs {
		most = max(most, len(f.Code))
	}
	return most
}

func lean(p impl.Program) impl.Memory {
	return impl.Memory{In: make([]uint32, len(p.Regions[0])), Out: make([]uint32, len(p.Regions[1])), Keep: make([]uint32, len(p.Regions[2]))}
}

// checkStay runs some steps: no frame costs more, or stands higher, than is told of its function; and tells the greatest height.
func checkStay(t *testing.T, p impl.Program, r impl.BoundResult, m impl.Memory) int64 {
	t.Helper()
	s := impl.Begin(p, m)
	var since []int64
	highest := int64(0)
	for range 400 {
		if s.Done || s.Trap != 0 {
			break
		}
		if len(since) < len(s.Frames) {
			since = append(since, s.Cost)
		}
		for n, f := range s.Frames {
			if s.Cost-since[n] > r.Costs[f.Func] {
				t.Fatalf("function %d costs more than %d", f.Func, r.Costs[f.Func])
			}
			if height := int64(len(s.Stack)) - f.Base; height > r.Depths[f.Func] {
				t.Fatalf("function %d has %d values, not %d", f.Func, height, r.Depths[f.Func])
			}
		}
		highest = max(highest, int64(len(s.Stack)))
		s = impl.StepOnce(p, s)
		since = since[:min(len(since), len(s.Frames))]
	}
	return highest
}

func TestBoundsOfManyPrograms(t *testing.T) {
	t.Parallel()
	d := dice(53)
	levels, loops, calls, backs, ends := 0, 0, 0, 0, int64(0)
	for round := range 500 {
		p := d.certifiedProgram(false)
		if longest(p) > 250 || len(p.Certs) > impl.MaxCerts {
			continue
		}
		r := checkBound(t, fmt.Sprint("round ", round), p)
		if r.Code != 0 {
			t.Fatalf("round %d: %+v", round, r)
		}
		s := impl.Run(p, lean(p), 1<<20)
		if s.Trap != 0 || s.Cost > r.Costs[0] || s.Steps > s.Cost || !s.Done && s.Steps < 1<<20 {
			t.Fatalf("round %d: told %d, but %s", round, r.Costs[0], brief(s))
		}
		ends = max(ends, s.Steps)
		checkStay(t, p, r, lean(p))
		checkTurns(t, fmt.Sprint("round ", round), p, turnsIn(p, lean(p), 300))
		for f := range p.Funcs {
			flow := impl.FlowOf(p.Funcs[f].Code)
			loops = max(loops, len(flow.Loops))
			for _, l := range flow.Loops {
				backs = max(backs, len(l.Back))
				within := 0
				for _, m := range flow.Loops {
					if slices.Contains(m.Blocks, l.Head) {
						within++
					}
				}
				levels = max(levels, within)
			}
			for _, i := range p.Funcs[f].Code {
				if i.Op == impl.OpCall {
					calls++
				}
			}
		}
	}
	if levels < 3 || loops < 8 || calls < 200 || backs < 3 || ends < 1000 {
		t.Error("levels", levels, "loops", loops, "calls", calls, "backs", backs, "steps", ends)
	}
}

// Without branches the bound is what each run costs, and its depth is the greatest height.
func TestBoundsOfPlainProgramsAreExact(t *testing.T) {
	t.Parallel()
	d := dice(59)
	seen, high := 0, 0
	for round := range 500 {
		p := d.certifiedProgram(true)
		if longest(p) > 250 || len(p.Certs) > impl.MaxCerts {
			continue
		}
		r := checkBound(t, fmt.Sprint("round ", round), p)
		s := impl.Run(p, lean(p), 1<<20)
		if r.Code != 0 || s.Trap != 0 {
			t.Fatalf("round %d: %+v, %s", round, r, brief(s))
		}
		if !s.Done {
			continue
		}
		// A loop that is never gone round costs its turns nothing, and a run does not see what stands in it.
		if s.Cost != r.Costs[0] {
			t.Fatalf("round %d: told %d, but it costs %d", round, r.Costs[0], s.Cost)
		}
		seen++
		idle := slices.ContainsFunc(p.Certs, func(c impl.Cert) bool { return c.Init == 0 })
		if highest := checkStay(t, p, r, lean(p)); !idle && s.Steps < 400 {
			if highest != r.Depths[0] {
				t.Fatalf("round %d: told %d values, but there are %d", round, r.Depths[0], highest)
			}
			high++
		}
	}
	if seen < 300 || high < 50 {
		t.Error("seen", seen, "heights", high)
	}
}

// spoilBound changes something of a program: an instruction, a certificate, a constant.
func (d *dice) spoilBound(p *impl.Program) {
	if len(p.Certs) == 0 {
		d.spoil(*p, d.number(len(p.Funcs)))
		return
	}
	n := d.next(len(p.Certs))
	c := &p.Certs[n]
	code := p.Funcs[c.Func].Code
	at := d.next(len(code) - 1)
	switch d.next(11) {
	case 0, 1:
		d.spoil(*p, d.number(len(p.Funcs)))
	case 2: // some loops as a whole are of many turns
		constant := &p.Consts[2+d.next(5)]
		old := constant.Word
		constant.Word = []uint32{7, 1 << 20, 1 << 31, 1<<32 - 1}[d.next(4)]
		for n := range p.Certs {
			if p.Certs[n].Init == old {
				p.Certs[n].Init = constant.Word
			}
		}
	case 3:
		p.Certs = slices.Delete(p.Certs, n, n+1)
	case 4:
		c.Init += uint32(d.next(3)) - 1
	case 5:
		c.Counter = d.number(counters)
	case 6: // the guard leads elsewhere
		code[c.Head].C = min(c.Head+d.number(8), int64(len(code)-1))
	case 7: // something writes to a counter
		if !named(code[at]) {
			code[at] = instr(impl.OpGuard, d.number(counters), 0, int64(at)+1)
		}
	case 8: // a nop ahead of a head
		if place := max(c.Head-d.number(3), 0); code[place].Op != impl.OpGuard {
			code[place] = instr(impl.OpNop)
		}
	case 9: // a call of anything
		if !named(code[at]) {
			code[at] = instr(impl.OpCall, d.number(len(p.Funcs)))
		}
	default:
		more := *c
		more.Head = int64(at)
		place, found := slices.BinarySearchFunc(p.Certs, more, func(a, b impl.Cert) int { return int(a.Func-b.Func)<<12 + int(a.Head-b.Head) })
		if !found && len(p.Certs) < impl.MaxCerts {
			p.Certs = slices.Insert(p.Certs, place, more)
		}
	}
}

func TestBoundsOfManySpoiledPrograms(t *testing.T) {
	t.Parallel()
	d := dice(61)
	codes, faults := map[int64]int{}, map[int64]int{}
	for round := range 4000 {
		p := d.certifiedProgram(false)
		if longest(p) > 90 || len(p.Certs) > impl.MaxCerts {
			continue
		}
		for range 1 + d.next(2) {
			d.spoilBound(&p)
		}
		r := checkBound(t, fmt.Sprint("round ", round), p)
		codes[r.Code]++
		if r.Code == 1 {
			continue
		}
		costs := []int64{d.number(1000), d.number(1000), d.number(1000), d.number(1000)}
		for f := range int64(len(p.Funcs)) {
			for _, l := range impl.FlowOf(p.Funcs[f].Code).Loops {
				got, want := impl.LoopFault(p, f, l), wantedLoopFault(p, f, l)
				if got != want {
					t.Fatalf("round %d: %s of function %d: fault %d, not %d", round, loopsText([]impl.Loop{l}), f, got, want)
				}
				faults[got]++
			}
			if got, want := impl.FuncCost(p, f, costs), wantedCost(p, f, costs); got != want {
				t.Fatalf("round %d: function %d costs %d, not %d", round, f, got, want)
			}
		}
		// A loop without a fault is gone round as told, whatever else is wrong.
		checkTurns(t, fmt.Sprint("round ", round), p, turnsIn(p, lean(p), 100))
	}
	for _, code := range []int64{0, 2, 3, 4, 5, 6, 7} {
		if codes[code] < 20 {
			t.Error("seldom the code", code, codes)
		}
	}
	for fault := range int64(6) {
		if faults[fault] < 10 {
			t.Error("seldom the fault", fault, faults)
		}
	}
}

// dearness has what has no cost at the dear end.
func dearness(cost int64) int64 {
	if cost < 0 {
		return 1 << 40
	}
	return cost
}

func TestDearerCalleesMakeNothingCheaper(t *testing.T) {
	t.Parallel()
	d := dice(67)
	told, refused, same := 0, 0, 0
	for round := range 1500 {
		p := d.certifiedProgram(false)
		if longest(p) > 60 || len(p.Certs) > impl.MaxCerts {
			continue
		}
		f := d.number(len(p.Funcs))
		scale := []int{10, 1000, 1 << 16, 1 << 23}[d.next(4)]
		costs := []int64{0, 0, 0, 0}
		last := int64(-1)
		for range 6 {
			for g := range costs {
				costs[g] = min(costs[g]+d.number(3)*d.number(scale)*d.number(scale), impl.MaxCost)
			}
			got := impl.FuncCost(p, f, costs)
			if want := wantedCost(p, f, costs); got != want {
				t.Fatalf("round %d: function %d costs %d, not %d", round, f, got, want)
			}
			if dearness(got) < last {
				t.Fatalf("round %d: cheaper by dearer callees: %d behind %d", round, got, last)
			}
			switch {
			case got < 0:
				refused++
			case got == last:
				same++
			default:
				told++
			}
			last = dearness(got)
		}
	}
	if told < 300 || refused < 100 || same < 100 {
		t.Error("told", told, "refused", refused, "same", same)
	}
}

// Of all functions the dearest one is just at the limit, or one beyond it.
func TestBoundsAtTheLimit(t *testing.T) {
	// 2 + 4 * Init + 2 + 2, and a nop.
	const init = (impl.MaxCost - 7) / 4
	loop := fmt.Sprintf("u storelocal:0 @h guard:0:@o j@h @o n r !h:0:%d", init)
	build := func(texts ...string) impl.Program {
		p := several(texts...)
		p.Consts[2].Word = init
		return p
	}
	if r := checkBound(t, "at the limit", build(loop)); r.Code != 0 || r.Costs[0] != impl.MaxCost {
		t.Errorf("at the limit: %+v", r)
	}
	if r := checkBound(t, "one more", build("n "+loop)); r.Code != 7 || r.Func != 0 {
		t.Errorf("one more: %+v", r)
	}
	for _, x := range []struct {
		texts []string
		f     int64
		costs string
	}{
		{[]string{"r", loop}, 0, fmt.Sprint("2,", impl.MaxCost)},
		{[]string{"call:1 r", loop}, 0, ""},
		{[]string{"r", "n " + loop}, 1, ""},
		{[]string{"r", "call:2 r", loop}, 1, ""},
		{[]string{"call:1 r", "call:2 r", "n n n r"}, 0, "17,11,5"},
	} {
		r := checkBound(t, fmt.Sprint(x.texts), build(x.texts...))
		if x.costs != "" && (r.Code != 0 || listText(r.Costs) != x.costs) || x.costs == "" && !sameAnswers(r, impl.BoundResult{Code: 7, Func: x.f}) {
			t.Errorf("%q: %+v", x.texts, r)
		}
	}
	// A callee that leaves room for just the call and the return.
	less := init - 2
	callee := fmt.Sprintf("u storelocal:0 @h guard:0:@o j@h @o n n n r !h:0:%d", less)
	for nops, want := range map[string]int64{"": 0, "n ": 7} {
		p := several("call:1 "+nops+"r", callee)
		p.Consts[2].Word = uint32(less)
		if r := checkBound(t, "a callee", p); r.Code != want || want == 0 && r.Costs[0] != impl.MaxCost {
			t.Errorf("a callee and %q: %+v", nops, r)
		}
	}
}

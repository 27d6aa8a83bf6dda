package tests

import (
	"fmt"
	"math"
	"math/big"
	"slices"
	"strings"
	"testing"

	"loop.example/s02548/impl"
)

// counter counts the cost of a function from behind: what is the dearest way from each block on? Loops are counted when they are come upon, with those within them.
type counter struct {
	p     impl.Program
	f     impl.Func
	flow  impl.Flow
	inits map[int64]uint32
	costs []int64
	sums  map[int]*big.Int
	large bool
}

func (c *counter) note(n *big.Int) *big.Int {
	if n.Cmp(big.NewInt(1<<32-1)) > 0 {
		c.large = true
	}
	return n
}

func (c *counter) blockSum(b int64) *big.Int {
	sum := big.NewInt(0)
	for at := c.flow.Blocks[b].First; at <= c.flow.Blocks[b].Last; at++ {
		i := c.f.Code[at]
		sum.Add(sum, big.NewInt(tableCosts()[i.Op]))
		if i.Op == impl.OpCall {
			sum.Add(sum, big.NewInt(c.costs[i.A]))
		}
	}
	return c.note(sum)
}

func tableCosts() []int64 {
	var costs []int64
	for _, row := range instructionTable() {
		costs = append(costs, row.info.Cost)
	}
	return costs
}

// greatest of the loops that hold a block and have all their blocks among these, and fewer; -1 if there is none.
func (c *counter) greatest(b int64, among []int64) int {
	found := -1
	for n, l := range c.flow.Loops {
		inside := slices.Contains(l.Blocks, b) && len(l.Blocks) < len(among)
		for _, x := range l.Blocks {
			inside = inside && slices.Contains(among, x)
		}
		if inside && (found < 0 || len(l.Blocks) > len(c.flow.Loops[found].Blocks)) {
			found = n
		}
	}
	return found
}

// ways tells the greatest cost of a way from a block to one of the ends, through these blocks and not to the head; nil if there is none.
func (c *counter) ways(b int64, head int64, among []int64, ends []int64, known map[int64]*big.Int) *big.Int {
	if n, is := known[b]; is {
		return n
	}
	blocks, own := []int64{b}, big.NewInt(0)
	if n := c.greatest(b, among); n >= 0 {
		blocks, own = c.flow.Loops[n].Blocks, c.loopSum(n)
	} else {
		own = c.blockSum(b)
	}
	var best *big.Int
	for _, x := range blocks {
		if slices.Contains(ends, x) && best == nil {
			best = big.NewInt(0)
		}
		for _, next := range c.flow.Blocks[x].Next {
			if next == head || slices.Contains(blocks, next) || !slices.Contains(among, next) {
				continue
			}
			if on := c.ways(next, head, among, ends, known); on != nil && (best == nil || on.Cmp(best) > 0) {
				best = on
			}
		}
	}
	if best != nil {
		best = c.note(new(big.Int).Add(own, best))
	}
	known[b] = best
	return best
}

func orZero(n *big.Int) *big.Int {
	if n == nil {
		return big.NewInt(0)
	}
	return n
}

func (c *counter) loopSum(n int) *big.Int {
	if sum, is := c.sums[n]; is {
		return sum
	}
	l := c.flow.Loops[n]
	var out []int64
	for _, b := range l.Blocks {
		for _, next := range c.flow.Blocks[b].Next {
			if !slices.Contains(l.Blocks, next) {
				out = append(out, b)
			}
		}
	}
	round := orZero(c.ways(l.Head, l.Head, l.Blocks, l.Back, map[int64]*big.Int{}))
	leave := orZero(c.ways(l.Head, l.Head, l.Blocks, out, map[int64]*big.Int{}))
	all := new(big.Int).Mul(big.NewInt(int64(c.inits[l.Head])), round)
	c.note(all)
	c.sums[n] = c.note(new(big.Int).Add(all, leave))
	return c.sums[n]
}

func wantedCost(p impl.Program, number int64, costs []int64) int64 {
	if impl.ProgramFault(p) != 0 || !within(number, len(p.Funcs)) {
		return -1
	}
	c := &counter{p: p, f: p.Funcs[number], flow: wantedFlow(p.Funcs[number].Code), inits: map[int64]uint32{}, costs: costs, sums: map[int]*big.Int{}}
	if c.flow.Code != 0 {
		return -1
	}
	for _, l := range c.flow.Loops {
		if wantedLoopFault(p, number, l) != 0 {
			return -1
		}
		for _, cert := range p.Certs {
			if cert.Func == number && cert.Head == c.flow.Blocks[l.Head].First {
				c.inits[l.Head] = cert.Init
			}
		}
	}
	var all, ends []int64
	for b, block := range c.flow.Blocks {
		all = append(all, int64(b))
		if c.f.Code[block.Last].Op == impl.OpReturn {
			ends = append(ends, int64(b))
		}
	}
	for _, i := range c.f.Code {
		if i.Op == impl.OpCall && (!within(i.A, len(costs)) || costs[i.A] < 0 || costs[i.A] > 1<<32-1) {
			return -1
		}
	}
	// A loop may hold all blocks: one more than there are, so that it has fewer.
	sum := orZero(c.ways(0, -1, append(all, -1), ends, map[int64]*big.Int{}))
	if c.large {
		return -1
	}
	return sum.Int64()
}

// checkCost: function 1 with this marked code costs so much, where the functions from 0 on cost what the list says.
func checkCost(t *testing.T, want int64, costs []int64, text string, certs ...string) {
	t.Helper()
	p := certified(text, certs...)
	if flow := impl.FlowOf(p.Funcs[1].Code); flow.Code != 0 && want >= 0 {
		t.Fatalf("of %.300s: flow %d at %d", text, flow.Code, flow.At)
	}
	got, model := impl.FuncCost(p, 1, costs), wantedCost(p, 1, costs)
	if got != want || model != want {
		t.Errorf("of %.300s with %v: cost %d, not %d (the model: %d)", text, certs, got, want, model)
	}
}

func TestCostOfEachInstruction(t *testing.T) {
	for _, c := range stepCases() {
		p := certified("n j@a @a n r")
		i := c.i
		if named(i) {
			i.C = 1
		}
		p.Funcs[1].Code[0] = i
		costs := []int64{100, 200, 300, 400, 500}
		want := c.cost + 2 + 1 + 2
		if i.Op == impl.OpCall {
			want += costs[i.A]
		}
		if got := impl.FuncCost(p, 1, costs); got != want || wantedCost(p, 1, costs) != want {
			t.Errorf("%s: %d, not %d", c.name, got, want)
		}
	}
}

func TestCostOfCodeWithoutLoops(t *testing.T) {
	for _, x := range []struct {
		want int64
		text string
	}{
		{2, "r"},
		{3, "n r"},
		{1022 + 2, strings.Repeat("n ", 1022) + "r"},
		{1023*8 + 2, strings.Repeat("div:3 ", 1023) + "r"},
		{2 + 2 + 2, "j@a @b r @a j@b"},
		// The dearer side is the first or the second one, or both are the same.
		{3 + 4 + 2, "b z@a n n j@o @a n @o r"},
		{3 + 9 + 2, "b z@a n n j@o @a div:3 n @o r"},
		{3 + 4 + 2, "b z@a n n j@o @a mul:3 n @o r"},
		{3 + 3 + 2, "b z@o n n n @o r"},
		{2 + 8 + 2, "guard:3:@o div:3 @o r"},
		{2 + 2, "guard:3:@o @o r"},
		{3 + 2, "b z@o @o r"},
		// Ways that end on their own: the dearer one by its return's place.
		{3 + 8 + 2, "b z@a div:3 r @a n r"},
		{3 + 8 + 2, "b z@a n r @a div:3 r"},
		{3 + 3 + 3 + 8 + 2, "b z@a r @a b z@c r @c b z@d n r @d div:3 r"},
		// A dear block first, and a cheap one behind; and the other way round.
		{3 + 10 + 3 + 1 + 2, "b z@a div:3 j@c @a n @c b z@d n @d r"},
		{3 + 1 + 3 + 10 + 2, "b z@a @a n b z@d div:3 j@e @d n @e r"},
		// What is cheaper up to a place may not go on there, but where it costs more.
		{3 + 10 + 1 + 2, "b z@a div:3 j@c @a b z@c @c n r"},
		{3 + 3 + 8 + 2, "b z@a b z@c n r @a n n r @c div:3 r"},
		{3 + (8 + 3) + (8 + 3) + 3 + (1 + 2), "b z@a div:3 b z@a div:3 b z@a b z@c @a n r @c n r"},
	} {
		checkCost(t, x.want, nil, x.text)
	}
	// A row of many branches has many ways, and is told soon all the same.
	long := ""
	for k := range 150 {
		long += fmt.Sprintf("b z@%da n n j@%db @%da n @%db ", k, k, k, k)
	}
	checkCost(t, 150*7+2, nil, long+"r")
}

func TestCostOfCalls(t *testing.T) {
	for _, x := range []struct {
		want  int64
		costs []int64
		text  string
	}{
		{4 + 40 + 2, []int64{10, 20, 30, 40, 50}, "call:3 r"},
		{4 + 10 + 2, []int64{10, 20, 30, 40, 50}, "call:0 r"},
		{4 + 0 + 2, []int64{10, 20, 30, 0, 50}, "call:3 r"},
		{4 + 10 + 4 + 50 + 4 + 50 + 2, []int64{10, 20, 30, 40, 50}, "call:0 call:4 call:4 r"},
		// Itself: what the list says of it.
		{4 + 20 + 2, []int64{10, 20}, "call:1 r"},
		// The dearer side by what is called.
		{3 + 4 + 40 + 2 + 2, []int64{10, 20, 30, 40}, "b z@a call:3 j@o @a call:2 @o r"},
		{3 + 4 + 50 + 2, []int64{10, 20, 50, 40}, "b z@a call:3 j@o @a call:2 @o r"},
		{3 + 4 + 41 + 2 + 2, []int64{10, 20, 43, 41}, "b z@a call:3 j@o @a call:2 @o r"},
		{3 + 4 + 44 + 2, []int64{10, 20, 44, 41}, "b z@a call:3 j@o @a call:2 @o r"},
		// A list that is too short, or just long enough.
		{-1, nil, "call:0 r"},
		{-1, []int64{}, "call:0 r"},
		{6, []int64{0}, "call:0 r"},
		{-1, []int64{1, 2, 3}, "call:3 r"},
		{10, []int64{1, 2, 3, 4}, "call:3 r"},
		{-1, []int64{1, 2, 3}, "call:2 call:3 r"},
		{-1, []int64{1, 2, 3}, "b z@a n n n n n @a call:0 b z@c call:3 @c r"},
		// More in it than there are functions.
		{10, []int64{1, 2, 3, 4, 5, 6, 7, 8, 9}, "call:3 r"},
		// What it does not call may be anything.
		{10, []int64{-1, math.MinInt64, math.MaxInt64, 4, impl.MaxCost + 1}, "call:3 r"},
		{2, []int64{-1, -1, -1, -1, -1}, "r"},
		{3, []int64{-5}, "n r"},
	} {
		checkCost(t, x.want, x.costs, x.text)
	}
	for _, n := range []int64{-1, -2, math.MinInt64, math.MinInt64 + 6, impl.MaxCost + 1, 1 << 32, 1<<32 + 5, math.MaxInt64, math.MaxInt64 - 5, -(1 << 32), -6} {
		for _, text := range []string{"call:3 r", "n call:3 n r", "b z@a call:3 @a r", "b z@a div:3 div:3 j@o @a call:3 @o r", "call:2 call:3 r", "call:3 call:2 r", "call:3 call:3 r"} {
			checkCost(t, -1, []int64{1, 1, 1, n}, text)
		}
		checkCost(t, -1, []int64{1, 1, 1, n}, "u storelocal:3 @h guard:3:@o call:3 j@h @o r", "h:3:6")
		checkCost(t, -1, []int64{1, 1, 1, n}, "const:3 storelocal:3 @h guard:3:@o call:3 j@h @o r", "h:3:0")
	}
}

func TestCostOfLoops(t *testing.T) {
	for _, x := range []struct {
		want  int64
		text  string
		certs []string
	}{
		// Of no turn, one and many.
		{2 + 0 + 2 + 2, "const:3 storelocal:3 @h guard:3:@o n j@h @o r", []string{"h:3:0"}},
		{2 + 5 + 2 + 2, "const:4 storelocal:3 @h guard:3:@o n j@h @o r", []string{"h:3:1"}},
		{2 + 6*5 + 2 + 2, "u storelocal:3 @h guard:3:@o n j@h @o r", []string{"h:3:6"}},
		{2 + 1000*5 + 2 + 2, "const:9 storelocal:3 @h guard:3:@o n j@h @o r", []string{"h:3:1000"}},
		{4 + 6*4 + 2 + 2, "u storelocal:3 j@h @h guard:3:@o j@h @o r", []string{"h:3:6"}},
		// Branches within it: the dearer side at each turn.
		{2 + 6*(2+3+8+2) + 2 + 2, "u storelocal:3 @h guard:3:@o b z@a div:3 @a j@h @o r", []string{"h:3:6"}},
		{2 + 6*(2+3+10+2) + 2 + 2, "u storelocal:3 @h guard:3:@o b z@a n j@c @a div:3 n n @c j@h @o r", []string{"h:3:6"}},
		// Several ways back: the dearest one, which is not the last one.
		{2 + 6*(2+3+11) + 2 + 2, "u storelocal:3 @h guard:3:@o b z@a n j@h @a div:3 n j@h @o r", []string{"h:3:6"}},
		{2 + 6*(2+3+11) + 2 + 2, "u storelocal:3 @h guard:3:@o b z@a div:3 n j@h @a n j@h @o r", []string{"h:3:6"}},
		{2 + 6*(2+3+3) + 2 + 2, "u storelocal:3 @h guard:3:@o b z@h n j@h @o r", []string{"h:3:6"}},
		// Several ways out: the dearest one; what stands behind them counts on its own.
		{2 + 6*(2+3+3) + (2 + 3) + 2, "u storelocal:3 @h guard:3:@o b z@o n j@h @o r", []string{"h:3:6"}},
		{2 + 6*(2+8+3+3) + (2 + 8 + 3) + 2, "u storelocal:3 @h guard:3:@o div:3 b z@o n j@h @o r", []string{"h:3:6"}},
		{2 + 6*(2+3+3+2) + (2 + 3 + 3) + (8 + 2), "u storelocal:3 @h guard:3:@o b z@o b z@p j@h @o r @p div:3 r", []string{"h:3:6"}},
		{2 + 6*(2+3+3+2) + (2 + 3 + 3) + (8 + 2), "u storelocal:3 @h guard:3:@o b z@p b z@o j@h @o r @p div:3 r", []string{"h:3:6"}},
		{2 + 0 + (2 + 8 + 3) + 2, "const:3 storelocal:3 @h guard:3:@o div:3 b z@o n j@h @o r", []string{"h:3:0"}},
		// A way out that also leads back.
		{2 + 6*(2+8+3) + (2 + 8 + 3) + 2, "u storelocal:3 @h guard:3:@o div:3 b z@h @o r", []string{"h:3:6"}},
		// Beside one another.
		{2 + 6*5 + 2 + 2 + 5*5 + 2 + 2, "u storelocal:3 @h guard:3:@o n j@h @o const:6 storelocal:3 @k guard:3:@p n j@k @p r", []string{"h:3:6", "k:3:5"}},
		// Two on two sides of a branch: the dearer one.
		{3 + 2 + (6*5 + 2) + 2, "b z@e u storelocal:3 @h guard:3:@o n j@h @e const:6 storelocal:3 @k guard:3:@o n j@k @o r", []string{"h:3:6", "k:3:5"}},
		{3 + 2 + (6*11 + 2) + 2, "b z@e u storelocal:3 @h guard:3:@o n j@h @e u storelocal:3 @k guard:3:@o n n n n n n n j@k @o r", []string{"h:3:6", "k:3:6"}},
		// A way around a loop, dearer or cheaper than the way through it.
		{3 + 2 + (6*4 + 2) + 2, "b z@o u storelocal:3 @h guard:3:@o j@h @o r", []string{"h:3:6"}},
		{3 + (7*8 + 2) + 2, "b z@e div:3 div:3 div:3 div:3 div:3 div:3 div:3 j@o @e u storelocal:3 @h guard:3:@o j@h @o r", []string{"h:3:6"}},
		{3 + (2 + 6*4 + 2) + 2, "b z@e div:3 div:3 div:3 n j@o @e u storelocal:3 @h guard:3:@o j@h @o r", []string{"h:3:6"}},
		// Two ways into it.
		{3 + 10 + 4 + (6*4 + 2) + 2, "b z@e div:3 n n u storelocal:3 j@h @e u storelocal:3 @h guard:3:@o j@h @o r", []string{"h:3:6"}},
		// Its head stands behind its body, its end ahead of all.
		{2 + 4 + 6*(2+3) + 2 + 2, "j@e @o r @a n @h guard:3:@o j@a @e u storelocal:3 j@h", []string{"h:3:6"}},
		// A return in the middle of what would be a loop is out of it.
		{2 + 6*(2+3+2) + (2 + 3) + (8 + 2), "u storelocal:3 @h guard:3:@o b z@a j@h @a div:3 r @o r", []string{"h:3:6"}},
	} {
		checkCost(t, x.want, nil, x.text, x.certs...)
	}
	// Calls within it count at each turn.
	checkCost(t, 2+6*(2+4+77+2)+2+2, []int64{0, 0, 0, 77}, "u storelocal:3 @h guard:3:@o call:3 j@h @o r", "h:3:6")
}

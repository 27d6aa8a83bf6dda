package tests

import (
	"fmt"
	"slices"
	"testing"

	"loop.example/s02548/impl"
)

// place says where in its block an instruction stands, and whether this is a later one than block 0.
type place struct {
	later bool
	first bool
	last  bool
}

func allPlaces() []place {
	var list []place
	for n := range 8 {
		list = append(list, place{n&1 != 0, n&2 != 0, n&4 != 0})
	}
	return list
}

// canStand: block 0 begins with nothing ahead, and what leads elsewhere is the last of its block.
func canStand(where place, ahead []impl.Instr, i impl.Instr) bool {
	if where.first && !where.later && len(ahead) > 0 {
		return false
	}
	return where.last || !named(i)
}

// placed is code in which the instruction stands in that place behind those ahead of it, and then so many are dropped. It tells which one it is, too.
func placed(where place, ahead []impl.Instr, i impl.Instr, left int) ([]impl.Instr, int64) {
	var code []impl.Instr
	jump := func() { code = append(code, instr(impl.OpJump, 0, 0, int64(len(code))+1)) }
	if where.later && !where.first {
		jump()
	}
	code = append(code, ahead...)
	switch {
	case where.later && where.first:
		jump()
	case !where.first:
		code = append(code, instr(impl.OpNop))
	}
	at := int64(len(code))
	if named(i) {
		i.C = at + 1
	}
	code = append(code, i)
	switch {
	case where.last && !named(i): // a leader behind it
		code = append(code, push(impl.TypeBool), instr(impl.OpJumpZero, 0, 0, at+1))
	case !where.last:
		code = append(code, instr(impl.OpNop))
	}
	code = append(code, drops(left)...)
	return append(code, ret()), at
}

// checkPlaced: in each place where it can stand, the instruction has the code (0: none, and the shapes ahead of it and behind it are these).
func checkPlaced(t *testing.T, what string, ahead []int64, i impl.Instr, want int64, behind []int64) {
	t.Helper()
	seen := 0
	for _, where := range allPlaces() {
		if !canStand(where, pushes(ahead), i) {
			continue
		}
		seen++
		code, at := placed(where, pushes(ahead), i, len(behind))
		told := fmt.Sprintf("%s, %+v, behind %v", what, where, ahead)
		p := typed(0, code)
		checkStandsThere(t, told, code, at, where, i)
		r := checkTypes(t, told, p, 1)
		switch {
		case r.Code != want || want != 0 && r.At != at:
			t.Errorf("%s: code %d at %d, not %d at %d", told, r.Code, r.At, want, at)
		case want == 0 && (!slices.Equal(r.Shapes[at], ahead) || !slices.Equal(r.Shapes[at+1], behind)):
			t.Errorf("%s: shapes %v, %v, not %v, %v", told, r.Shapes[at], r.Shapes[at+1], ahead, behind)
		}
	}
	if seen == 0 {
		t.Error(what, "stands nowhere")
	}
}

// checkStandsThere holds the code that was made against the place that was asked for.
func checkStandsThere(t *testing.T, what string, code []impl.Instr, at int64, where place, i impl.Instr) {
	t.Helper()
	for number, b := range wantedBlocks(code) {
		if b.First <= at && at <= b.Last {
			got := place{number > 0, b.First == at, b.Last == at}
			if got != where || code[at].Op != i.Op {
				t.Fatalf("%s: it stands %+v", what, got)
			}
		}
	}
}

func typesOfValues(list []impl.Value) []int64 {
	var types []int64
	for _, v := range list {
		types = append(types, v.Type)
	}
	return types
}

// typeCase is an instruction of function 1 of a workshop (without a result there) with what it takes and gives.
type typeCase struct {
	name  string
	i     impl.Instr
	takes []int64
	gives []int64
}

func typeCases() []typeCase {
	p := typed(0, nil)
	var list []typeCase
	for _, c := range stepCases() {
		x := typeCase{c.name, c.i, typesOfValues(c.takes), typesOfValues(c.gives)}
		if c.i.Op == impl.OpCall {
			x.gives = resultTypes(p.Funcs[c.i.A])
		}
		if c.i.Op != impl.OpJump || c.name == "jump ahead" {
			list = append(list, x)
		}
	}
	return list
}

func TestTypesOfEachInstruction(t *testing.T) {
	seen := map[int64]int{}
	for _, c := range typeCases() {
		seen[c.i.Op]++
		for _, below := range [][]int64{nil, {1}, {2}, {3}, {3, 1, 2}, {2, 2, 3, 3}} {
			checkPlaced(t, c.name, slices.Concat(below, c.takes), c.i, 0, slices.Concat(below, c.gives))
		}
	}
	for op := range int64(impl.MaxOp) {
		if seen[op] == 0 {
			t.Error("no case of", impl.Info(op).Name)
		}
	}
}

func TestTypesOfEachInstructionWithTooFew(t *testing.T) {
	seen := 0
	for _, c := range typeCases() {
		for n := range c.takes {
			seen++
			checkPlaced(t, c.name+" with too few", c.takes[len(c.takes)-n:], c.i, 1, nil)
			checkPlaced(t, c.name+" with the lower ones alone", c.takes[:n], c.i, 1, nil)
			for other := int64(1); other <= 3; other++ {
				checkPlaced(t, c.name+" with too few, of any types", slices.Repeat([]int64{other}, n), c.i, 1, nil)
			}
		}
	}
	if seen < 60 {
		t.Error("cases", seen)
	}
}

func TestTypesOfEachInstructionOfOtherTypes(t *testing.T) {
	seen := 0
	for _, c := range typeCases() {
		if c.i.Op == impl.OpDup || c.i.Op == impl.OpDrop {
			continue
		}
		for n := range c.takes {
			for other := int64(1); other <= 3; other++ {
				if other == c.takes[n] {
					continue
				}
				seen++
				stack := slices.Clone(c.takes)
				stack[n] = other
				checkPlaced(t, c.name+" of another type", stack, c.i, 2, nil)
				for _, below := range [][]int64{{c.takes[n]}, c.takes, {1, 2, 3}} {
					checkPlaced(t, c.name+" of another type, with more below", slices.Concat(below, stack), c.i, 2, nil)
				}
			}
		}
	}
	if seen < 120 {
		t.Error("cases", seen)
	}
}

// dup doubles the type on top, whatever it is, and drop takes it.
func TestTypesOfDupAndDrop(t *testing.T) {
	for _, x := range allLists(3) {
		if len(x) == 0 {
			continue
		}
		checkPlaced(t, "dup", x, instr(impl.OpDup), 0, append(slices.Clone(x), x[len(x)-1]))
		checkPlaced(t, "drop", x, instr(impl.OpDrop), 0, x[:len(x)-1])
	}
}

func TestTypesOfGuards(t *testing.T) {
	const count = 6
	seen := map[int64]int{}
	for local := range int64(2 * count) {
		p := typed(0, nil)
		p.Funcs[1].Params, p.Funcs[1].Locals = manyTypes(count), manyTypes(count)
		of := p.Funcs[1].Params[local%count]
		want := int64(2)
		if of == impl.TypeUint {
			want = 0
		}
		for _, ahead := range [][]int64{nil, {1}, {3, 3}, {2, 1, 3}} {
			for _, where := range allPlaces() {
				i := instr(impl.OpGuard, local)
				if !canStand(where, pushes(ahead), i) {
					continue
				}
				seen[of]++
				code, at := placed(where, pushes(ahead), i, len(ahead))
				p.Funcs[1].Code = code
				r := checkTypes(t, "guard", p, 1)
				if r.Code != want || want != 0 && r.At != at {
					t.Errorf("guard of the local %d, of type %d: code %d at %d, not at %d", local, of, r.Code, r.At, at)
				}
			}
		}
	}
	if seen[1] == 0 || seen[2] != seen[1] || seen[3] != seen[1] {
		t.Error("guards", seen)
	}
}

// highest has this height, and these types on top.
func highest(height int, top []int64) []int64 {
	return slices.Concat(manyTypes(height-len(top)), top)
}

func TestTypesOfFullStacks(t *testing.T) {
	grow := map[int64]int{}
	for _, c := range typeCases() {
		for _, height := range []int{impl.MaxStack - 1, impl.MaxStack} {
			ahead := highest(height, c.takes)
			left := ahead[:height-len(c.takes)]
			behind := slices.Concat(left, c.gives)
			want := int64(0)
			if len(behind) > impl.MaxStack {
				grow[c.i.Op]++
				want = 3
			}
			checkFull(t, c.name, ahead, c.i, want, behind)
		}
	}
	for _, op := range []int64{impl.OpConst, impl.OpLoadLocal, impl.OpLoad, impl.OpDup, impl.OpCall} {
		if grow[op] == 0 {
			t.Error("never too high:", impl.Info(op).Name)
		}
	}
	if len(grow) != 5 {
		t.Error("instructions that make the stack grow", grow)
	}
}

// checkFull is checkPlaced without the places that push a bool behind the instruction, where no room is left for it.
func checkFull(t *testing.T, what string, ahead []int64, i impl.Instr, want int64, behind []int64) {
	t.Helper()
	for _, where := range allPlaces() {
		if !canStand(where, pushes(ahead), i) {
			continue
		}
		code, at := placed(where, pushes(ahead), i, len(behind))
		pushed := want == 0 && where.last && !named(i) && len(behind) == impl.MaxStack
		p := typed(0, code)
		r := checkTypes(t, what, p, 1)
		wantCode, wantAt := want, at
		if pushed {
			wantCode, wantAt = 3, at+1
		}
		if r.Code != wantCode || wantCode != 0 && r.At != wantAt {
			t.Errorf("%s at the height %d, %+v: code %d at %d, not %d at %d", what, len(ahead), where, r.Code, r.At, wantCode, wantAt)
		}
		if depth := int64(max(len(ahead), len(behind))); r.Code == 0 && !where.last && r.Depth != depth {
			t.Errorf("%s at the height %d: depth %d, not %d", what, len(ahead), r.Depth, depth)
		}
	}
}

func TestTypesOfHeights(t *testing.T) {
	for height := range impl.MaxStack + 3 {
		code := append(pushes(manyTypes(height)), drops(height)...)
		r := checkTypes(t, "pushes", typed(0, append(code, ret())), 1)
		switch {
		case height <= impl.MaxStack && (r.Code != 0 || r.Depth != int64(height)):
			t.Error("height", height, typesText(r))
		case height > impl.MaxStack && (r.Code != 3 || r.At != impl.MaxStack):
			t.Error("height", height, typesText(r))
		}
		// By calls that give a result, each behind the other.
		calls := slices.Repeat([]impl.Instr{instr(impl.OpCall, 4)}, height)
		r = checkTypes(t, "calls", typed(0, slices.Concat(calls, drops(height), []impl.Instr{ret()})), 1)
		switch {
		case height <= impl.MaxStack && (r.Code != 0 || r.Depth != int64(height)):
			t.Error("calls", height, typesText(r))
		case height > impl.MaxStack && (r.Code != 3 || r.At != impl.MaxStack):
			t.Error("calls", height, typesText(r))
		}
	}
	// What a call takes makes room for what it gives.
	full := pushes(highest(impl.MaxStack, []int64{2, 3, 1}))
	code := slices.Concat(full, []impl.Instr{instr(impl.OpCall, 2)}, drops(impl.MaxStack-2), []impl.Instr{ret()})
	if r := checkTypes(t, "a call at a full stack", typed(0, code), 1); r.Code != 0 || r.Depth != impl.MaxStack {
		t.Error("a call at a full stack", typesText(r))
	}
}

// allLists are all lists of up to so many types.
func allLists(most int) [][]int64 {
	list := [][]int64{nil}
	from := 0
	for range most {
		to := len(list)
		for _, x := range list[from:to] {
			for n := int64(1); n <= 3; n++ {
				list = append(list, append(slices.Clone(x), n))
			}
		}
		from = to
	}
	return list
}

func TestTypesOfCalls(t *testing.T) {
	seen := map[int64]int{}
	for _, params := range append(allLists(3), manyTypes(impl.MaxParams)) {
		for result := int64(0); result <= 3; result++ {
			p := typed(0, nil)
			p.Funcs[2].Params, p.Funcs[2].Result = params, result
			for _, ahead := range append(allLists(3), params, slices.Concat([]int64{1, 2}, params)) {
				want := int64(0)
				left := len(ahead) - len(params)
				switch {
				case left < 0:
					want = 1
				case !slices.Equal(ahead[left:], params):
					want = 2
				}
				code := append(pushes(ahead), instr(impl.OpCall, 2))
				behind := []int64{}
				if want == 0 {
					behind = append(slices.Clone(ahead[:left]), resultTypes(p.Funcs[2])...)
				}
				p.Funcs[1].Code = slices.Concat(code, drops(len(behind)), []impl.Instr{ret()})
				r := checkTypes(t, "a call", p, 1)
				at := int64(len(ahead))
				seen[r.Code]++
				if r.Code != want || want != 0 && r.At != at || want == 0 && !slices.Equal(r.Shapes[at+1], behind) {
					t.Fatalf("a call of %v with %v: %s", params, ahead, typesText(r))
				}
			}
		}
	}
	if seen[0] < 200 || seen[1] < 1000 || seen[2] < 1000 {
		t.Error("calls", seen)
	}
}

func TestTypesOfReturns(t *testing.T) {
	for result := int64(0); result <= 3; result++ {
		for _, ahead := range allLists(3) {
			want := int64(5)
			if result == 0 && len(ahead) == 0 || len(ahead) == 1 && ahead[0] == result {
				want = 0
			}
			for _, way := range []string{"", "n", "j1", "j1 n"} {
				code := append(worded(way), pushes(ahead)...)
				at := int64(len(code))
				if want == 0 {
					at = 0
				}
				checkTypeCode(t, "return", result, append(code, ret()), want, at)
			}
			code := append(pushes(ahead), instr(impl.OpJump, 0, 0, int64(len(ahead)+1)), ret())
			at := int64(len(ahead) + 1)
			if want == 0 {
				at = 0
			}
			checkTypeCode(t, "return alone in its block", result, code, want, at)
		}
	}
}

// clearing drops one shape and pushes another.
func clearing(from []int64, to []int64) []impl.Instr {
	return append(drops(len(from)), pushes(to)...)
}

func TestTypesWhereTwoEdgesMeet(t *testing.T) {
	for _, x := range allLists(2) {
		for _, y := range allLists(2) {
			want := int64(4)
			if slices.Equal(x, y) {
				want = 0
			}
			at := func(place int) int64 {
				if want == 0 {
					return 0
				}
				return int64(place)
			}
			// Two sides of a branch: the named one comes first.
			side := append(pushes(x), instr(impl.OpJump, 0, 0, int64(3+len(x)+len(y))))
			code := slices.Concat([]impl.Instr{push(1), instr(impl.OpJumpZero, 0, 0, int64(3+len(x)))}, side, pushes(y), drops(len(x)), []impl.Instr{ret()})
			checkTypeCode(t, fmt.Sprint("sides ", x, y), 0, code, want, at(2+len(x)))

			// A loop gone back to with another shape than it is come to with.
			head := len(x)
			body := clearing(x, y)
			back := head + 1 + len(body)
			code = slices.Concat(pushes(x), []impl.Instr{instr(impl.OpGuard, 3, 0, int64(back+1))}, body, []impl.Instr{instr(impl.OpJump, 0, 0, int64(head))}, drops(len(x)), []impl.Instr{ret()})
			checkTypeCode(t, fmt.Sprint("a loop ", x, y), 0, code, want, at(back))

			// A loop that is gone back to and left at its end.
			body = append(clearing(x, y), push(1))
			back = head + len(body)
			code = slices.Concat(pushes(x), body, []impl.Instr{instr(impl.OpJumpZero, 0, 0, int64(head))}, drops(len(y)), []impl.Instr{ret()})
			if len(x) > 0 {
				checkTypeCode(t, fmt.Sprint("a loop left at its end ", x, y), 0, code, want, at(back))
			}
		}
		// Block 0 is come to with the empty shape ahead of all edges.
		code := slices.Concat(pushes(x), []impl.Instr{push(1), instr(impl.OpJumpZero)}, drops(len(x)), []impl.Instr{ret()})
		if len(x) == 0 {
			checkTypeCode(t, "back to block 0", 0, code, 0, 0)
		} else {
			checkTypeCode(t, fmt.Sprint("back to block 0 with ", x), 0, code, 4, int64(len(x)+1))
		}
	}
}

// Types above MaxStack are told where they would stand, in whatever block this is.
func TestTypesOfAFullStackInALoop(t *testing.T) {
	for _, height := range []int{impl.MaxStack - 1, impl.MaxStack} {
		code := slices.Concat(pushes(manyTypes(height)), []impl.Instr{instr(impl.OpGuard, 3, 0, int64(height+4)), push(2), instr(impl.OpDrop), instr(impl.OpJump, 0, 0, int64(height))}, drops(height), []impl.Instr{ret()})
		if height < impl.MaxStack {
			r := checkTypeCode(t, "a loop below the top", 0, code, 0, 0)
			if r.Depth != impl.MaxStack {
				t.Error("depth", r.Depth)
			}
		} else {
			checkTypeCode(t, "a loop at the top", 0, code, 3, int64(height+1))
		}
	}
}

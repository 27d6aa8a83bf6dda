package tests

import (
	"math"
	"testing"

	"loop.example/s02548/impl"
)

type tableRow struct {
	op   int64
	info impl.OpInfo
}

// instructionTable is the document's table, row by row.
func instructionTable() []tableRow {
	return []tableRow{
		{impl.OpNop, impl.OpInfo{Name: "nop", Cost: 1, Form: 0}},
		{impl.OpConst, impl.OpInfo{Name: "const", Cost: 1, Form: 1}},
		{impl.OpLoadLocal, impl.OpInfo{Name: "loadlocal", Cost: 1, Form: 2}},
		{impl.OpStoreLocal, impl.OpInfo{Name: "storelocal", Cost: 1, Form: 2}},
		{impl.OpLoad, impl.OpInfo{Name: "load", Cost: 2, Form: 3}},
		{impl.OpStore, impl.OpInfo{Name: "store", Cost: 2, Form: 3}},
		{impl.OpLoadAt, impl.OpInfo{Name: "loadat", Cost: 3, Form: 4}},
		{impl.OpStoreAt, impl.OpInfo{Name: "storeat", Cost: 3, Form: 4}},
		{impl.OpAdd, impl.OpInfo{Name: "add", Cost: 1, Form: 5}},
		{impl.OpSub, impl.OpInfo{Name: "sub", Cost: 1, Form: 5}},
		{impl.OpMul, impl.OpInfo{Name: "mul", Cost: 3, Form: 5}},
		{impl.OpDiv, impl.OpInfo{Name: "div", Cost: 8, Form: 5}},
		{impl.OpMod, impl.OpInfo{Name: "mod", Cost: 8, Form: 5}},
		{impl.OpAnd, impl.OpInfo{Name: "and", Cost: 1, Form: 6}},
		{impl.OpOr, impl.OpInfo{Name: "or", Cost: 1, Form: 6}},
		{impl.OpXor, impl.OpInfo{Name: "xor", Cost: 1, Form: 6}},
		{impl.OpNot, impl.OpInfo{Name: "not", Cost: 1, Form: 6}},
		{impl.OpShl, impl.OpInfo{Name: "shl", Cost: 1, Form: 0}},
		{impl.OpShr, impl.OpInfo{Name: "shr", Cost: 1, Form: 0}},
		{impl.OpNeg, impl.OpInfo{Name: "neg", Cost: 1, Form: 0}},
		{impl.OpEq, impl.OpInfo{Name: "eq", Cost: 1, Form: 7}},
		{impl.OpLess, impl.OpInfo{Name: "less", Cost: 1, Form: 5}},
		{impl.OpConv, impl.OpInfo{Name: "conv", Cost: 1, Form: 8}},
		{impl.OpDup, impl.OpInfo{Name: "dup", Cost: 1, Form: 0}},
		{impl.OpDrop, impl.OpInfo{Name: "drop", Cost: 1, Form: 0}},
		{impl.OpJump, impl.OpInfo{Name: "jump", Cost: 2, Form: 9}},
		{impl.OpJumpZero, impl.OpInfo{Name: "jumpzero", Cost: 2, Form: 9}},
		{impl.OpGuard, impl.OpInfo{Name: "guard", Cost: 2, Form: 10}},
		{impl.OpCall, impl.OpInfo{Name: "call", Cost: 4, Form: 11}},
		{impl.OpReturn, impl.OpInfo{Name: "return", Cost: 2, Form: 0}},
	}
}

// wrongOps has none of 0..29, but numbers whose low bits are among these.
func wrongOps() []int64 {
	return []int64{-1, -2, -29, -256, 30, 31, 32, 64, 256 + impl.OpAdd, 1<<32 + impl.OpAdd, -(1 << 32) + impl.OpAdd, math.MaxInt64, math.MinInt64, math.MinInt64 + impl.OpAdd}
}

func wrongTypes() []int64 {
	return []int64{0, -1, -2, -3, 4, 5, 256 + impl.TypeInt, 1<<32 + impl.TypeUint, math.MaxInt64, math.MinInt64, math.MinInt64 + impl.TypeInt}
}

func edgeWords() []uint32 {
	return []uint32{0, 1, 2, 3, 5, 7, 31, 32, 33, 63, 64, 0xffff, 0x10000, 0x10001, 0x12345678, 0x7ffffffe, 0x7fffffff, 0x80000000, 0x80000001, 0xfffffff9, 0xfffffffe, 0xffffffff}
}

func TestInfoAndOpOfTellEachRow(t *testing.T) {
	table := instructionTable()
	if len(table) != impl.MaxOp+1 {
		t.Fatal("rows", len(table))
	}
	for i, row := range table {
		if row.op != int64(i) {
			t.Error("number of", row.info.Name, row.op)
		}
		if got := impl.Info(row.op); got != row.info {
			t.Error("info", row, got)
		}
		if got := impl.OpOf(row.info.Name); got != row.op {
			t.Error("number by name", row, got)
		}
	}
}

func TestInfoAndOpOfOfWhatIsNone(t *testing.T) {
	for _, op := range wrongOps() {
		if got := impl.Info(op); got != (impl.OpInfo{}) {
			t.Error("info", op, got)
		}
	}
	for _, name := range []string{"", " ", "Add", "ADD", "add ", " add", "add\x00", "add\n", "ad", "addd", "add sub mul", "nop nop", "0", "8", "bool", "\xff", "jumpZero", "load local"} {
		if got := impl.OpOf(name); got != -1 {
			t.Errorf("number of %q: %d", name, got)
		}
	}
}

func TestTypeNames(t *testing.T) {
	for i, name := range []string{"bool", "int", "uint"} {
		if got := impl.TypeName(int64(i + 1)); got != name {
			t.Error(i+1, got)
		}
	}
	if impl.TypeName(impl.TypeBool) != "bool" || impl.TypeName(impl.TypeInt) != "int" || impl.TypeName(impl.TypeUint) != "uint" {
		t.Error("names by constants")
	}
	for _, n := range wrongTypes() {
		if got := impl.TypeName(n); got != "" {
			t.Error(n, got)
		}
	}
}

// wide is a word as the number that t says it is, in 64 bits, where nothing wraps.
func wide(t int64, w uint32) int64 {
	if t == impl.TypeInt && w >= 0x80000000 {
		return int64(w) - 0x100000000
	}
	return int64(w)
}

func truth(b bool) uint32 {
	if b {
		return 1
	}
	return 0
}

func wantedType(op int64, t int64) bool {
	switch op {
	case impl.OpShl, impl.OpShr, impl.OpNeg:
		return true
	case impl.OpAnd, impl.OpOr, impl.OpXor, impl.OpNot:
		return t == impl.TypeBool || t == impl.TypeUint
	case impl.OpEq:
		return t == impl.TypeBool || t == impl.TypeInt || t == impl.TypeUint
	}
	return t == impl.TypeInt || t == impl.TypeUint
}

// wanted is what the document asks of Compute, told by wide numbers.
func wanted(op int64, t int64, x uint32, y uint32) uint32 {
	if !wantedType(op, t) {
		return 0
	}
	a, b := wide(t, x), wide(t, y)
	switch op {
	case impl.OpAdd:
		return uint32(a + b)
	case impl.OpSub:
		return uint32(a - b)
	case impl.OpMul:
		return uint32(uint64(a) * uint64(b))
	case impl.OpDiv:
		if b != 0 {
			return uint32(a / b)
		}
	case impl.OpMod:
		if b != 0 {
			return uint32(a % b)
		}
	case impl.OpAnd:
		return x & y
	case impl.OpOr:
		return x | y
	case impl.OpXor:
		return x&^y | y&^x
	case impl.OpNot:
		if t == impl.TypeBool {
			return truth(x == 0)
		}
		return 0xffffffff - x
	case impl.OpShl:
		return uint32(uint64(x) << (y % 32))
	case impl.OpShr:
		return uint32(uint64(x) >> (y % 32))
	case impl.OpNeg:
		return uint32(-int64(x))
	case impl.OpEq:
		return truth(a == b)
	case impl.OpLess:
		return truth(a < b)
	}
	return 0
}

func TestComputeAtEachOpAndType(t *testing.T) {
	types := append(wrongTypes(), impl.TypeBool, impl.TypeInt, impl.TypeUint)
	ops := wrongOps()
	for op := int64(0); op <= impl.MaxOp; op++ {
		ops = append(ops, op)
	}
	for _, op := range ops {
		for _, n := range types {
			for _, x := range edgeWords() {
				for _, y := range edgeWords() {
					if got, want := impl.Compute(op, n, x, y), wanted(op, n, x, y); got != want {
						t.Errorf("op %d of type %d at %#x, %#x: %#x, not %#x", op, n, x, y, got, want)
					}
				}
			}
		}
	}
}

type computeCase struct {
	op   int64
	t    int64
	x    uint32
	y    uint32
	want uint32
}

func checkCases(t *testing.T, cases []computeCase) {
	t.Helper()
	for _, c := range cases {
		if got := impl.Compute(c.op, c.t, c.x, c.y); got != c.want {
			t.Errorf("%+v: %#x", c, got)
		}
	}
}

func TestComputeDivides(t *testing.T) {
	const least, minusOne, minusSeven = 0x80000000, 0xffffffff, 0xfffffff9
	checkCases(t, []computeCase{
		{impl.OpDiv, impl.TypeInt, least, minusOne, least},
		{impl.OpMod, impl.TypeInt, least, minusOne, 0},
		{impl.OpDiv, impl.TypeUint, least, minusOne, 0},
		{impl.OpMod, impl.TypeUint, least, minusOne, least},
		{impl.OpDiv, impl.TypeInt, 9, 0, 0},
		{impl.OpDiv, impl.TypeInt, least, 0, 0},
		{impl.OpDiv, impl.TypeUint, 9, 0, 0},
		{impl.OpMod, impl.TypeInt, 9, 0, 0},
		{impl.OpMod, impl.TypeInt, minusOne, 0, 0},
		{impl.OpMod, impl.TypeUint, 9, 0, 0},
		{impl.OpDiv, impl.TypeInt, minusSeven, 2, 0xfffffffd},
		{impl.OpDiv, impl.TypeInt, 7, 0xfffffffe, 0xfffffffd},
		{impl.OpDiv, impl.TypeInt, minusSeven, 0xfffffffe, 3},
		{impl.OpMod, impl.TypeInt, minusSeven, 2, minusOne},
		{impl.OpMod, impl.TypeInt, 7, 0xfffffffe, 1},
		{impl.OpMod, impl.TypeInt, minusSeven, 0xfffffffe, minusOne},
		{impl.OpMod, impl.TypeUint, minusSeven, 4, 1},
		{impl.OpDiv, impl.TypeBool, 1, 1, 0},
		{impl.OpMod, impl.TypeBool, 1, 2, 0},
	})
}

func TestComputeWrapsAndShifts(t *testing.T) {
	checkCases(t, []computeCase{
		{impl.OpAdd, impl.TypeInt, 0x7fffffff, 1, 0x80000000},
		{impl.OpSub, impl.TypeUint, 0, 1, 0xffffffff},
		{impl.OpMul, impl.TypeInt, 0xffffffff, 0x80000000, 0x80000000},
		{impl.OpNeg, impl.TypeInt, 0x80000000, 9, 0x80000000},
		{impl.OpNeg, 0, 1, 9, 0xffffffff},
		{impl.OpNeg, -77, 0, 9, 0},
		{impl.OpShl, impl.TypeUint, 1, 31, 0x80000000},
		{impl.OpShl, impl.TypeUint, 5, 32, 5},
		{impl.OpShl, impl.TypeUint, 5, 33, 10},
		{impl.OpShl, impl.TypeBool, 3, 0xffffffff, 0x80000000},
		{impl.OpShr, impl.TypeUint, 0x80000000, 31, 1},
		{impl.OpShr, impl.TypeInt, 0x80000000, 4, 0x08000000},
		{impl.OpShr, 99, 0x80000000, 32, 0x80000000},
		{impl.OpShr, 0, 0xffffffff, 0xffffffe1, 0x7fffffff},
	})
}

func TestComputeOfBools(t *testing.T) {
	checkCases(t, []computeCase{
		{impl.OpNot, impl.TypeBool, 0, 0, 1},
		{impl.OpNot, impl.TypeBool, 1, 0, 0},
		{impl.OpNot, impl.TypeBool, 2, 0, 0},
		{impl.OpNot, impl.TypeBool, 0xffffffff, 0, 0},
		{impl.OpNot, impl.TypeUint, 1, 0, 0xfffffffe},
		{impl.OpNot, impl.TypeInt, 1, 0, 0},
		{impl.OpAnd, impl.TypeBool, 6, 3, 2},
		{impl.OpAnd, impl.TypeBool, 1, 2, 0},
		{impl.OpOr, impl.TypeBool, 6, 3, 7},
		{impl.OpXor, impl.TypeBool, 6, 3, 5},
		{impl.OpEq, impl.TypeBool, 2, 1, 0},
		{impl.OpEq, impl.TypeBool, 2, 2, 1},
		{impl.OpLess, impl.TypeBool, 0, 1, 0},
		{impl.OpLess, impl.TypeInt, 0x80000000, 0x7fffffff, 1},
		{impl.OpLess, impl.TypeUint, 0x80000000, 0x7fffffff, 0},
		{impl.OpLess, impl.TypeUint, 4, 4, 0},
	})
}

func TestConvertAtEachPair(t *testing.T) {
	for _, v := range edgeWords() {
		for from := int64(1); from <= 3; from++ {
			for to := int64(1); to <= 3; to++ {
				want := v
				if to == impl.TypeBool {
					want = truth(v != 0)
				}
				if from == to {
					want = 0
				}
				if got := impl.Convert(from, to, v); got != want {
					t.Errorf("%d to %d of %#x: %#x, not %#x", from, to, v, got, want)
				}
			}
		}
	}
}

func TestConvertAtTypesThatAreNone(t *testing.T) {
	for _, none := range wrongTypes() {
		others := append(wrongTypes(), impl.TypeBool, impl.TypeInt, impl.TypeUint)
		for _, other := range others {
			for _, v := range edgeWords() {
				if impl.Convert(none, other, v) != 0 || impl.Convert(other, none, v) != 0 {
					t.Error("converted", none, other, v)
				}
			}
		}
	}
}

// Nothing that is asked in between may change what is answered.
func TestInstructionsHangOnTheirArgumentsAlone(t *testing.T) {
	for round := 0; round < 3; round++ {
		for _, row := range instructionTable() {
			info := impl.Info(row.op)
			info.Name, info.Cost, info.Form = "gone", -1, -1
			impl.Compute(row.op, impl.TypeInt, 0x80000000, 0xffffffff)
			impl.OpOf("gone")
			if impl.Info(row.op) != row.info || impl.OpOf(row.info.Name) != row.op || impl.OpOf("gone") != -1 {
				t.Error("another answer", round, row)
			}
		}
	}
}

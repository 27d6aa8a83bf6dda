package impl

const TypeBool = 1
const TypeInt = 2
const TypeUint = 3
const OpNop = 0
const OpConst = 1
const OpLoadLocal = 2
const OpStoreLocal = 3
const OpLoad = 4
const OpStore = 5
const OpLoadAt = 6
const OpStoreAt = 7
const OpAdd = 8
const OpSub = 9
const OpMul = 10
const OpDiv = 11
const OpMod = 12
const OpAnd = 13
const OpOr = 14
const OpXor = 15
const OpNot = 16
const OpShl = 17
const OpShr = 18
const OpNeg = 19
const OpEq = 20
const OpLess = 21
const OpConv = 22
const OpDup = 23
const OpDrop = 24
const OpJump = 25
const OpJumpZero = 26
const OpGuard = 27
const OpCall = 28
const OpReturn = 29
const MaxOp = 29

type Instr struct {
	Op int64
	A  int64
	B  int64
	C  int64
}
type OpInfo struct {
	Name string
	Cost int64
	Form int64
}

// What the A, B and C of an instruction are.
const (
	formPlain = iota
	formConst
	formLocal
	formCell
	formCells
	formNumber
	formBits
	formAny
	formConv
	formJump
	formGuard
	formCall
)

// opRow is all that is told of an instruction; compute is nil where it computes
// nothing from values alone. It is asked only with a type that the form has.
type opRow struct {
	OpInfo
	compute func(t int64, x uint32, y uint32) uint32
}

func opRows() [MaxOp + 1]opRow {
	return [MaxOp + 1]opRow{
		OpNop:        {OpInfo{"nop", 1, formPlain}, nil},
		OpConst:      {OpInfo{"const", 1, formConst}, nil},
		OpLoadLocal:  {OpInfo{"loadlocal", 1, formLocal}, nil},
		OpStoreLocal: {OpInfo{"storelocal", 1, formLocal}, nil},
		OpLoad:       {OpInfo{"load", 2, formCell}, nil},
		OpStore:      {OpInfo{"store", 2, formCell}, nil},
		OpLoadAt:     {OpInfo{"loadat", 3, formCells}, nil},
		OpStoreAt:    {OpInfo{"storeat", 3, formCells}, nil},
		OpAdd:        {OpInfo{"add", 1, formNumber}, add},
		OpSub:        {OpInfo{"sub", 1, formNumber}, subtract},
		OpMul:        {OpInfo{"mul", 3, formNumber}, multiply},
		OpDiv:        {OpInfo{"div", 8, formNumber}, divide},
		OpMod:        {OpInfo{"mod", 8, formNumber}, modulo},
		OpAnd:        {OpInfo{"and", 1, formBits}, bitAnd},
		OpOr:         {OpInfo{"or", 1, formBits}, bitOr},
		OpXor:        {OpInfo{"xor", 1, formBits}, bitXor},
		OpNot:        {OpInfo{"not", 1, formBits}, not},
		OpShl:        {OpInfo{"shl", 1, formPlain}, shiftLeft},
		OpShr:        {OpInfo{"shr", 1, formPlain}, shiftRight},
		OpNeg:        {OpInfo{"neg", 1, formPlain}, negate},
		OpEq:         {OpInfo{"eq", 1, formAny}, equal},
		OpLess:       {OpInfo{"less", 1, formNumber}, less},
		OpConv:       {OpInfo{"conv", 1, formConv}, nil},
		OpDup:        {OpInfo{"dup", 1, formPlain}, nil},
		OpDrop:       {OpInfo{"drop", 1, formPlain}, nil},
		OpJump:       {OpInfo{"jump", 2, formJump}, nil},
		OpJumpZero:   {OpInfo{"jumpzero", 2, formJump}, nil},
		OpGuard:      {OpInfo{"guard", 2, formGuard}, nil},
		OpCall:       {OpInfo{"call", 4, formCall}, nil},
		OpReturn:     {OpInfo{"return", 2, formPlain}, nil},
	}
}

func rowOf(op int64) opRow {
	if op < 0 || op > MaxOp {
		return opRow{}
	}
	return opRows()[op]
}

func Info(op int64) OpInfo {
	return rowOf(op).OpInfo
}

func opNumbers() map[string]int64 {
	numbers := make(map[string]int64, MaxOp+1)
	for op, row := range opRows() {
		numbers[row.Name] = int64(op)
	}
	return numbers
}

func OpOf(name string) int64 {
	op, found := opNumbers()[name]
	if !found {
		return -1
	}
	return op
}

func TypeName(t int64) string {
	switch t {
	case TypeBool:
		return "bool"
	case TypeInt:
		return "int"
	case TypeUint:
		return "uint"
	}
	return ""
}

func isType(t int64) bool {
	return t >= TypeBool && t <= TypeUint
}

// formTakes: may an instruction of this form work on values of type t? A form
// that names no type takes any t, even one that is none.
func formTakes(form int64, t int64) bool {
	switch form {
	case formNumber:
		return t == TypeInt || t == TypeUint
	case formBits:
		return t == TypeBool || t == TypeUint
	case formAny:
		return isType(t)
	}
	return true
}

func Compute(op int64, t int64, x uint32, y uint32) uint32 {
	row := rowOf(op)
	if row.compute == nil || !formTakes(row.Form, t) {
		return 0
	}
	return row.compute(t, x, y)
}

func Convert(from int64, to int64, v uint32) uint32 {
	if !isType(from) || !isType(to) || from == to {
		return 0
	}
	if to == TypeBool {
		return wordOf(v != 0)
	}
	return v
}

func wordOf(truth bool) uint32 {
	if truth {
		return 1
	}
	return 0
}

func add(t int64, x uint32, y uint32) uint32 {
	return x + y
}

func subtract(t int64, x uint32, y uint32) uint32 {
	return x - y
}

// The low word of a product is the same with and without a sign.
func multiply(t int64, x uint32, y uint32) uint32 {
	return x * y
}

func divide(t int64, x uint32, y uint32) uint32 {
	if t == TypeInt {
		return uint32(quotient(int32(x), int32(y)))
	}
	return quotient(x, y)
}

func modulo(t int64, x uint32, y uint32) uint32 {
	if t == TypeInt {
		return uint32(remainder(int32(x), int32(y)))
	}
	return remainder(x, y)
}

// quotient leaves the least int by -1 to the language, which wraps it round to
// the least int and does not panic.
func quotient[W int32 | uint32](x W, y W) W {
	if y == 0 {
		return 0
	}
	return x / y
}

func remainder[W int32 | uint32](x W, y W) W {
	if y == 0 {
		return 0
	}
	return x % y
}

func bitAnd(t int64, x uint32, y uint32) uint32 {
	return x & y
}

func bitOr(t int64, x uint32, y uint32) uint32 {
	return x | y
}

func bitXor(t int64, x uint32, y uint32) uint32 {
	return x ^ y
}

// A bool above 1 counts as 1 here: 1 - x alone would wrap round.
func not(t int64, x uint32, y uint32) uint32 {
	if t == TypeBool {
		return wordOf(x == 0)
	}
	return ^x
}

func shiftLeft(t int64, x uint32, y uint32) uint32 {
	return x << (y & 31)
}

func shiftRight(t int64, x uint32, y uint32) uint32 {
	return x >> (y & 31)
}

func negate(t int64, x uint32, y uint32) uint32 {
	return -x
}

func equal(t int64, x uint32, y uint32) uint32 {
	return wordOf(x == y)
}

func less(t int64, x uint32, y uint32) uint32 {
	if t == TypeInt {
		return wordOf(int32(x) < int32(y))
	}
	return wordOf(x < y)
}

package tests

import (
	"bytes"
	"encoding/binary"
	"hash/crc32"
	"math"
	"reflect"
	"runtime"
	"testing"

	"loop.example/s02548/impl"
)

func ret() impl.Instr { return impl.Instr{Op: impl.OpReturn} }

func leastProgram() impl.Program {
	return impl.Program{Regions: [][]int64{nil, nil, nil}, Funcs: []impl.Func{{Code: []impl.Instr{ret()}}}}
}

// someProgram has all forms of instructions, and counts of which no two are the same.
func someProgram() impl.Program {
	return impl.Program{
		Regions: [][]int64{{1, 2, 2, 3, 3, 3}, {3, 3, 3, 3, 2, 2, 1, 1, 1}, {1, 1, 1, 1, 1, 1, 1, 1, 2, 3, 3, 2}},
		Consts:  []impl.Const{{Type: 1, Word: 1}, {Type: 2, Word: 0x80000000}, {Type: 3, Word: 0xfffefdfc}},
		Funcs: []impl.Func{
			{Locals: []int64{1, 3}, Code: []impl.Instr{{Op: impl.OpConst, A: 2}, {Op: impl.OpStoreLocal, A: 1}, {Op: impl.OpGuard, A: 1, C: 4}, {Op: impl.OpJump, C: 2}, ret()}},
			{Params: []int64{3}, Result: 1, Locals: []int64{3, 2}, Code: []impl.Instr{{Op: impl.OpGuard, A: 1, C: 0}, {Op: impl.OpConv, A: 2, B: 1}, ret()}},
			{Params: []int64{1, 3}, Result: 3, Locals: []int64{2, 3, 1}, Code: []impl.Instr{{Op: impl.OpNop}, {Op: impl.OpLoad, A: 2, B: 11}, {Op: impl.OpStoreAt, A: 1, C: 3}, {Op: impl.OpNot, A: 3}, {Op: impl.OpEq, A: 1}, {Op: impl.OpCall, A: 3}, {Op: impl.OpJumpZero, C: 6}}},
			{Params: []int64{2, 2, 2, 3}, Result: 2, Locals: []int64{1, 1, 1}, Code: []impl.Instr{{Op: impl.OpLess, A: 2}, {Op: impl.OpLoadLocal, A: 6}, {Op: impl.OpStore, A: 1, B: 8}, {Op: impl.OpDiv, A: 3}, ret(), {Op: impl.OpLoadAt, B: 3, C: 1}}},
		},
		Certs: []impl.Cert{{Func: 0, Head: 2, Counter: 1, Init: 0xfffefdfc}, {Func: 1, Head: 0, Counter: 1}, {Func: 1, Head: 2, Counter: 0, Init: 7}, {Func: 2, Head: 6, Counter: 3, Init: 0xffffffff}},
	}
}

func manyTypes(count int) []int64 {
	list := make([]int64, count)
	for i := range list {
		list[i] = int64(i%3) + 1
	}
	return list
}

func manyNops(count int) []impl.Instr {
	return append(make([]impl.Instr, count-1), ret())
}

// fullProgram stands at every limit.
func fullProgram() impl.Program {
	p := impl.Program{Regions: [][]int64{manyTypes(impl.MaxCells), manyTypes(impl.MaxCells), manyTypes(impl.MaxCells)}}
	for i := range impl.MaxConsts {
		p.Consts = append(p.Consts, impl.Const{Type: int64(i%3) + 1, Word: uint32(i % 2)})
	}
	for i := range impl.MaxFuncs {
		f := impl.Func{Params: manyTypes(impl.MaxParams), Result: int64(i % 4), Locals: manyTypes(impl.MaxLocals - impl.MaxParams), Code: manyNops(impl.MaxCode)}
		if i == 0 {
			f = impl.Func{Locals: manyTypes(impl.MaxLocals), Code: manyNops(impl.MaxCode)}
		}
		f.Code[0] = impl.Instr{Op: impl.OpJump, C: impl.MaxCode - 1}
		f.Code[1] = impl.Instr{Op: impl.OpLoad, A: impl.RegionKeep, B: impl.MaxCells - 1}
		f.Code[2] = impl.Instr{Op: impl.OpConst, A: impl.MaxConsts - 1}
		f.Code[3] = impl.Instr{Op: impl.OpLoadLocal, A: impl.MaxLocals - 1}
		f.Code[4] = impl.Instr{Op: impl.OpCall, A: impl.MaxFuncs - 1}
		p.Funcs = append(p.Funcs, f)
	}
	for i := range int64(impl.MaxCerts) {
		p.Certs = append(p.Certs, impl.Cert{Func: i / 2, Head: i % 2 * (impl.MaxCode - 1), Counter: 2 + i%2*3, Init: uint32(0) - uint32(i)})
	}
	return p
}

// widestMask has a mask over all cells of a region.
func widestMask() impl.Program {
	p := leastProgram()
	p.Regions = [][]int64{nil, make([]int64, impl.MaxCells), nil}
	for i := range p.Regions[1] {
		p.Regions[1][i] = impl.TypeInt
	}
	p.Funcs[0].Code = []impl.Instr{{Op: impl.OpStoreAt, A: 1, C: impl.MaxCells - 1}, {Op: impl.OpLoadAt, A: 1, B: impl.MaxCells / 2, C: impl.MaxCells/2 - 1}, ret()}
	return p
}

// bytesOf are the bytes of any program, faulty ones too, as the document tells them.
func bytesOf(p impl.Program) []byte {
	le := binary.LittleEndian
	b := append([]byte("PLC1"), 1, 0)
	for _, cells := range p.Regions {
		b = le.AppendUint16(b, uint16(len(cells)))
		for _, n := range cells {
			b = append(b, byte(n))
		}
	}
	b = le.AppendUint16(b, uint16(len(p.Consts)))
	for _, c := range p.Consts {
		b = le.AppendUint32(append(b, byte(c.Type)), c.Word)
	}
	b = le.AppendUint16(b, uint16(len(p.Funcs)))
	for _, f := range p.Funcs {
		b = append(b, byte(len(f.Params)))
		for _, n := range f.Params {
			b = append(b, byte(n))
		}
		b = append(b, byte(f.Result), byte(len(f.Locals)))
		for _, n := range f.Locals {
			b = append(b, byte(n))
		}
		b = le.AppendUint16(b, uint16(len(f.Code)))
		for _, i := range f.Code {
			b = append(b, byte(i.Op), byte(i.A))
			b = le.AppendUint32(le.AppendUint16(b, uint16(i.B)), uint32(i.C))
		}
	}
	b = le.AppendUint16(b, uint16(len(p.Certs)))
	for _, c := range p.Certs {
		b = le.AppendUint16(le.AppendUint16(b, uint16(c.Func)), uint16(c.Head))
		b = le.AppendUint32(append(b, byte(c.Counter)), c.Init)
	}
	return summed(b)
}

func summed(b []byte) []byte {
	b = bytes.Clone(b)
	return binary.LittleEndian.AppendUint32(b, crc32.ChecksumIEEE(b))
}

// bodyOf is all ahead of the sum.
func bodyOf(p impl.Program) []byte {
	b := bytesOf(p)
	return b[:len(b)-4]
}

func goodPrograms() []impl.Program {
	return []impl.Program{leastProgram(), someProgram(), widestMask(), fullProgram()}
}

func TestProgramIsDecodedFromWhatItIsEncodedTo(t *testing.T) {
	for i, p := range goodPrograms() {
		if code := impl.ProgramFault(p); code != 0 {
			t.Error(i, "has the fault", code)
		}
		b := impl.Encode(p)
		if !bytes.Equal(b, bytesOf(p)) {
			t.Error(i, "other bytes")
		}
		r := impl.Decode(b)
		if r.Code != 0 || !sameAnswers(r.Program, p) {
			t.Error(i, "is not read back", r.Code)
		}
		if !impl.SameProgram(r.Program, p) {
			t.Error(i, "is not the same")
		}
	}
}

func checkCode(t *testing.T, what string, b []byte, want int64) {
	t.Helper()
	r := impl.Decode(b)
	if r.Code != want {
		t.Errorf("%s: code %d, not %d", what, r.Code, want)
	}
	if r.Code != 0 && !reflect.DeepEqual(r.Program, impl.Program{}) {
		t.Errorf("%s: a program beside the code %d", what, r.Code)
	}
}

func TestDecodeOfBytesCutOff(t *testing.T) {
	for _, p := range []impl.Program{leastProgram(), someProgram()} {
		whole := bytesOf(p)
		body := bodyOf(p)
		for n := range whole {
			want := int64(2)
			if n < 10 {
				want = 1
			}
			checkCode(t, "cut off", whole[:n], want)
		}
		for n := range body {
			want := int64(4)
			if n+4 < 10 {
				want = 1
			}
			checkCode(t, "cut off and summed", summed(body[:n]), want)
		}
	}
}

func TestDecodeOfBytesLeftOver(t *testing.T) {
	for _, p := range goodPrograms() {
		for _, more := range [][]byte{{0}, {255}, {0, 0, 0, 0}, bodyOf(p), make([]byte, 70000)} {
			checkCode(t, "left over", summed(append(bodyOf(p), more...)), 5)
			checkCode(t, "left over behind the sum", append(bytesOf(p), more...), 2)
		}
	}
}

func TestDecodeOfOneBitTurned(t *testing.T) {
	for _, p := range []impl.Program{leastProgram(), someProgram()} {
		b := bytesOf(p)
		for bit := range 8 * len(b) {
			b[bit/8] ^= 1 << (bit % 8)
			want := int64(2)
			if bit < 32 {
				want = 1
			}
			checkCode(t, "a bit turned", b, want)
			b[bit/8] ^= 1 << (bit % 8)
		}
	}
}

// taker reads as the document tells; short stays true from the first number on that is not there.
type taker struct {
	left  []byte
	short bool
}

func (k *taker) take(n int) int64 {
	if len(k.left) < n {
		k.short, k.left = true, nil
		return 0
	}
	var v int64
	for i := range n {
		v |= int64(k.left[i]) << (8 * i)
	}
	k.left = k.left[n:]
	return v
}

func (k *taker) types(n int64) []int64 {
	var list []int64
	for i := int64(0); i < n && !k.short; i++ {
		list = append(list, k.take(1))
	}
	return list
}

func (k *taker) function() impl.Func {
	var f impl.Func
	f.Params = k.types(k.take(1))
	f.Result = k.take(1)
	f.Locals = k.types(k.take(1))
	for n := k.take(2); n > 0 && !k.short; n-- {
		var i impl.Instr
		i.Op, i.A, i.B, i.C = k.take(1), k.take(1), k.take(2), k.take(4)
		f.Code = append(f.Code, i)
	}
	return f
}

func (k *taker) program() impl.Program {
	var p impl.Program
	for range 3 {
		p.Regions = append(p.Regions, k.types(k.take(2)))
	}
	for n := k.take(2); n > 0 && !k.short; n-- {
		p.Consts = append(p.Consts, impl.Const{Type: k.take(1), Word: uint32(k.take(4))})
	}
	for n := k.take(2); n > 0 && !k.short; n-- {
		p.Funcs = append(p.Funcs, k.function())
	}
	for n := k.take(2); n > 0 && !k.short; n-- {
		p.Certs = append(p.Certs, impl.Cert{Func: k.take(2), Head: k.take(2), Counter: k.take(1), Init: uint32(k.take(4))})
	}
	return p
}

// wantedDecode is what the document asks of Decode at bytes with a good start and sum.
func wantedDecode(body []byte) impl.ProgramResult {
	k := taker{left: body[4:]}
	if k.take(2) != 1 {
		return impl.ProgramResult{Code: 3}
	}
	p := k.program()
	switch {
	case k.short:
		return impl.ProgramResult{Code: 4}
	case len(k.left) > 0:
		return impl.ProgramResult{Code: 5}
	case impl.ProgramFault(p) != 0:
		return impl.ProgramResult{Code: 6}
	}
	return impl.ProgramResult{Program: p}
}

// checkBytes: bytes that decode are what their program is encoded to; all others get their code.
func checkBytes(t *testing.T, what string, body []byte) int64 {
	t.Helper()
	b := summed(body)
	got, want := impl.Decode(b), wantedDecode(body)
	if got.Code != want.Code || !sameAnswers(got.Program, want.Program) {
		t.Errorf("%s: code %d, not %d, or another program", what, got.Code, want.Code)
	}
	if got.Code == 0 && !bytes.Equal(impl.Encode(got.Program), b) {
		t.Errorf("%s: decoded, but not what its program is encoded to", what)
	}
	return got.Code
}

func TestDecodeOfOneBitTurnedAndSummed(t *testing.T) {
	seen := map[int64]int{}
	for _, p := range []impl.Program{leastProgram(), someProgram(), widestMask()} {
		body := bodyOf(p)
		for bit := 32; bit < 8*len(body); bit++ {
			body[bit/8] ^= 1 << (bit % 8)
			seen[checkBytes(t, "a bit turned", body)]++
			body[bit/8] ^= 1 << (bit % 8)
		}
	}
	for _, code := range []int64{0, 3, 4, 5, 6} {
		if seen[code] == 0 {
			t.Error("never the code", code)
		}
	}
}

func TestDecodeOfBytesMixedUp(t *testing.T) {
	d := dice(1)
	next := d.next
	for range 20000 {
		body := bodyOf(someProgram())
		for range 1 + next(3) {
			at := 4 + next(len(body)-4)
			switch next(3) {
			case 0:
				body[at] = byte(next(256))
			case 1:
				body = append(body[:at], body[at+1:]...)
			case 2:
				body = append(body[:at], append([]byte{byte(next(8))}, body[at:]...)...)
			}
		}
		if code := checkBytes(t, "mixed up", body); code < 0 || code > 6 {
			t.Error("code", code)
		}
	}
}

func TestDecodeOfAWrongStart(t *testing.T) {
	good := bytesOf(someProgram())
	for _, b := range [][]byte{nil, {}, []byte("P"), []byte("PLC1"), []byte("PLC1\x01\x00\x00\x00\x00"), summed([]byte("PLC1\x01")), summed(nil)} {
		checkCode(t, "short", b, 1)
	}
	for i := range 4 {
		for _, x := range []byte{0, 1, ' ', 'P', 'p', '2', 255} {
			body := bytes.Clone(good[:len(good)-4])
			if body[i] == x {
				continue
			}
			body[i] = x
			checkCode(t, "another start", summed(body), 1)
		}
	}
	checkCode(t, "a start of its own ahead", append([]byte{0}, good...), 1)
	checkCode(t, "the least length", summed([]byte("PLC1\x01\x00")), 4)
}

func TestDecodeOfAnotherNumber(t *testing.T) {
	for _, version := range []uint16{0, 2, 3, 255, 256, 257, 0x8001, 0xffff} {
		body := bodyOf(someProgram())
		binary.LittleEndian.PutUint16(body[4:], version)
		checkCode(t, "another number", summed(body), 3)
	}
}

func TestDecodeTellsTheFirstCode(t *testing.T) {
	body := bodyOf(someProgram())
	wrongStart := append([]byte("PLC0"), body[4:]...)
	wrongVersion := append([]byte("PLC1\x02\x00"), body[6:]...)
	faulty := someProgram()
	faulty.Regions[0][0] = 9
	faultyBody := bodyOf(faulty)
	checkCode(t, "start ahead of sum", wrongStart, 1)
	checkCode(t, "start ahead of number", summed(append([]byte("PLC0\x02\x00"), body[6:]...)), 1)
	checkCode(t, "sum ahead of number", append(wrongVersion, 0, 0, 0, 0), 2)
	checkCode(t, "sum ahead of the end", append(bytes.Clone(body[:40]), 0, 0, 0, 0), 2)
	checkCode(t, "sum ahead of fault", append(bytes.Clone(faultyBody), 0, 0, 0, 0), 2)
	checkCode(t, "number ahead of the end", summed(wrongVersion[:len(wrongVersion)-1]), 3)
	checkCode(t, "number ahead of all", summed([]byte("PLC1\x02\x00")), 3)
	checkCode(t, "number ahead of what is left", summed(append(wrongVersion, 0)), 3)
	checkCode(t, "number ahead of fault", summed(append([]byte("PLC1\x00\x00"), faultyBody[6:]...)), 3)
	checkCode(t, "the end ahead of fault", summed(faultyBody[:len(faultyBody)-1]), 4)
	checkCode(t, "what is left ahead of fault", summed(append(bytes.Clone(faultyBody), 0)), 5)
	checkCode(t, "fault", summed(faultyBody), 6)
}

// tooMany are programs whose counts are believed, as all is there, but stand above a limit.
func tooMany() []impl.Program {
	list := make([]impl.Program, 10)
	for i := range list {
		list[i] = someProgram()
	}
	list[0].Regions[0] = manyTypes(impl.MaxCells + 1)
	list[1].Regions[2] = manyTypes(0xffff)
	list[2].Consts = append(make([]impl.Const, impl.MaxConsts), list[2].Consts...)
	list[3].Funcs = append(list[3].Funcs, make([]impl.Func, 0xffff-4)...)
	list[4].Funcs[1].Params = manyTypes(impl.MaxParams + 1)
	list[5].Funcs[1].Locals = manyTypes(255)
	list[6].Funcs[1].Code = manyNops(impl.MaxCode + 1)
	list[7].Funcs[3].Code = manyNops(0xffff)
	list[8].Certs = make([]impl.Cert, 0xffff)
	list[9].Funcs = nil
	return list
}

func TestDecodeOfFaultyPrograms(t *testing.T) {
	for _, p := range tooMany() {
		checkCode(t, "too many", bytesOf(p), 6)
	}
	told := 0
	for _, c := range faultCases() {
		p := someProgram()
		c.change(&p)
		// What bytes can't hold, or what is no program of three regions, is not told by them.
		if c.want == 0 || len(p.Regions) != 3 || !fitsBytes(p) {
			continue
		}
		checkCode(t, c.name, bytesOf(p), 6)
		told++
	}
	if told < 100 {
		t.Error("faulty programs in bytes", told)
	}
}

func fitsBytes(p impl.Program) bool {
	return sameAnswers(wantedParts(bodyOf(p)), p)
}

func wantedParts(body []byte) impl.Program {
	k := taker{left: body[6:]}
	return k.program()
}

// countPlaces tells where counts stand in the bytes of someProgram, and how wide they are.
func countPlaces(p impl.Program) map[int]int {
	places := map[int]int{}
	at := 6
	for _, cells := range p.Regions {
		places[at] = 2
		at += 2 + len(cells)
	}
	places[at] = 2
	at += 2 + 5*len(p.Consts)
	places[at] = 2
	at += 2
	for _, f := range p.Funcs {
		places[at] = 1
		at += 1 + len(f.Params) + 1
		places[at] = 1
		at += 1 + len(f.Locals)
		places[at] = 2
		at += 2 + 8*len(f.Code)
	}
	places[at] = 2
	return places
}

func TestDecodeOfCountsThatPromiseMore(t *testing.T) {
	for _, p := range []impl.Program{leastProgram(), someProgram()} {
		for at, wide := range countPlaces(p) {
			body := bodyOf(p)
			body[at] = 255
			if wide == 2 {
				body[at+1] = 255
			}
			checkCode(t, "promises more", summed(body), 4)
			checkCode(t, "promises more, and ends there", summed(body[:at+wide]), 4)
			checkCode(t, "ends within the count", summed(body[:at+wide-1]), 4)
		}
	}
}

func TestDecodeBelievesCountsAsFarAsThereAreBytes(t *testing.T) {
	b := summed([]byte("PLC1\x01\x00\x00\x00\x00\x00\x00\x00\x00\x00\xff\xff"))
	var before, after runtime.MemStats
	runtime.ReadMemStats(&before)
	const rounds = 100
	for range rounds {
		checkCode(t, "functions that are not there", b, 4)
	}
	runtime.ReadMemStats(&after)
	if used := (after.TotalAlloc - before.TotalAlloc) / rounds; used > 65536 {
		t.Error("memory for", len(b), "bytes:", used)
	}
}

func TestSameProgramAtEachNumber(t *testing.T) {
	for i, p := range append(oddPrograms(), leastProgram(), someProgram(), widestMask()) {
		other := copyOf(p)
		if !impl.SameProgram(p, other) || !impl.SameProgram(p, p) || !impl.SameProgram(roomyOf(p), p) {
			t.Error(i, "is not the same as its copy")
		}
		eachNumber(reflect.ValueOf(&other).Elem(), func(n reflect.Value) {
			was := numberIn(n)
			for _, v := range []int64{was + 1, was - 1, was ^ 1<<31, was ^ math.MinInt64} {
				setNumber(n, v)
				if numberIn(n) != was && (impl.SameProgram(p, other) || impl.SameProgram(other, p)) {
					t.Error(i, "another number does not show", was, v)
				}
			}
			setNumber(n, was)
		})
	}
}

func TestSameProgramAtEachLength(t *testing.T) {
	for i, p := range append(oddPrograms(), leastProgram(), someProgram()) {
		other := copyOf(p)
		eachList(reflect.ValueOf(&other).Elem(), func(list reflect.Value) {
			was := reflect.ValueOf(list.Interface())
			shorter := was
			if was.Len() > 0 {
				shorter = was.Slice(0, was.Len()-1)
				list.Set(shorter)
				if impl.SameProgram(p, other) || impl.SameProgram(other, p) {
					t.Error(i, "a shorter list does not show")
				}
			}
			list.Set(reflect.Append(was, reflect.Zero(was.Type().Elem())))
			if impl.SameProgram(p, other) || impl.SameProgram(other, p) {
				t.Error(i, "a longer list does not show")
			}
			list.Set(was)
		})
		if !impl.SameProgram(p, other) {
			t.Error(i, "is not the same any more")
		}
	}
}

func TestSameProgramOfEmptyLists(t *testing.T) {
	empty := impl.Program{Regions: [][]int64{{}, {}, {}}, Consts: []impl.Const{}, Funcs: []impl.Func{{Params: []int64{}, Locals: []int64{}, Code: []impl.Instr{ret()}}}, Certs: []impl.Cert{}}
	if !impl.SameProgram(empty, leastProgram()) || !impl.SameProgram(leastProgram(), empty) {
		t.Error("nil and empty lists differ")
	}
	if !impl.SameProgram(impl.Program{}, impl.Program{Regions: [][]int64{}, Funcs: []impl.Func{}}) {
		t.Error("no lists and empty ones differ")
	}
	if impl.SameProgram(impl.Program{}, leastProgram()) || impl.SameProgram(impl.Program{Regions: [][]int64{nil}}, impl.Program{}) {
		t.Error("other numbers of lists")
	}
	moved := leastProgram()
	moved.Funcs = []impl.Func{{Params: []int64{1}, Code: moved.Funcs[0].Code}}
	there := leastProgram()
	there.Funcs = []impl.Func{{Locals: []int64{1}, Code: there.Funcs[0].Code}}
	if impl.SameProgram(moved, there) {
		t.Error("a parameter is no local")
	}
}

// oddPrograms are faulty, each in a way that may lead a reader of it astray.
func oddPrograms() []impl.Program {
	far := impl.Program{
		Regions: [][]int64{{math.MinInt64}, {math.MaxInt64}, nil, {}, {0}},
		Consts:  []impl.Const{{Type: math.MaxInt64, Word: math.MaxUint32}},
		Funcs: []impl.Func{{Params: []int64{math.MinInt64}, Result: math.MinInt64, Locals: []int64{math.MaxInt64}, Code: []impl.Instr{
			{Op: math.MinInt64, A: math.MinInt64, B: math.MaxInt64, C: math.MaxInt64}, {Op: math.MaxInt64}}}, {}},
		Certs: []impl.Cert{{Func: math.MaxInt64, Head: math.MinInt64, Counter: math.MaxInt64, Init: math.MaxUint32}, {Func: -1}},
	}
	list := []impl.Program{{}, {Regions: [][]int64{{}, {}}}, {Regions: make([][]int64, 4)}, {Regions: make([][]int64, 3)}, far}
	for _, op := range []int64{impl.OpLoadAt, impl.OpStoreAt, impl.OpLoad, impl.OpStore, impl.OpConst, impl.OpLoadLocal, impl.OpCall, impl.OpGuard, impl.OpJump} {
		for _, n := range []int64{math.MinInt64, -1, 1 << 32, math.MaxInt64} {
			p := someProgram()
			p.Funcs[2].Code[0] = impl.Instr{Op: op, A: n}
			p.Funcs[2].Code[1] = impl.Instr{Op: op, A: 1, B: n}
			p.Funcs[2].Code[2] = impl.Instr{Op: op, A: 1, B: 1, C: n}
			list = append(list, p)
		}
	}
	return list
}

func TestContainerChangesNoArgument(t *testing.T) {
	list := append(oddPrograms(), leastProgram(), someProgram(), widestMask())
	for i, plain := range list {
		p, q := roomyOf(plain), roomyOf(someProgram())
		before, other := wholeOf(p), wholeOf(q)
		for range 2 {
			if impl.ProgramFault(p) != impl.ProgramFault(plain) || !bytes.Equal(impl.Encode(p), impl.Encode(plain)) {
				t.Error(i, "another answer")
			}
			impl.SameProgram(p, q)
			impl.SameProgram(q, p)
		}
		if !reflect.DeepEqual(wholeOf(p), before) || !reflect.DeepEqual(wholeOf(q), other) {
			t.Error(i, "was changed")
		}
	}
	for _, p := range list {
		for _, b := range [][]byte{bytesOf(p), bodyOf(p), bodyOf(p)[:6], nil} {
			b = roomyBytes(b)
			before := wholeOf(b)
			first := impl.Decode(b)
			if !reflect.DeepEqual(impl.Decode(b), first) || !reflect.DeepEqual(wholeOf(b), before) {
				t.Error("bytes were changed, or answered otherwise")
			}
		}
	}
}

func roomyBytes(b []byte) []byte {
	return append(bytes.Clone(b), 1, 2, 3, 4, 5)[:len(b)]
}

func TestContainerAnswersNewMemory(t *testing.T) {
	for _, p := range goodPrograms() {
		b := roomyBytes(impl.Encode(p))
		r, again := impl.Decode(b), impl.Decode(b)
		if r.Code != 0 {
			t.Fatal("code", r.Code)
		}
		checkOwnMemory(t, "Decode", r, b)
		checkOwnMemory(t, "Decode", []impl.ProgramResult{r, again})
		for i := range b {
			b[i] = 0xee
		}
		if !impl.SameProgram(r.Program, p) {
			t.Error("a program hangs on its bytes")
		}
		checkOwnMemory(t, "Encode", [][]byte{impl.Encode(p), impl.Encode(p)}, p)
	}
}

package tests

import (
	"bytes"
	"fmt"
	"slices"
	"strings"
	"testing"

	"loop.example/s02548/impl"
)

func wantedCheck(p impl.Program) impl.LoadResult {
	r := wantedBound(p)
	if r.Code != 0 {
		return impl.LoadResult{Code: 2, Sub: r.Code, Func: r.Func, At: r.At}
	}
	return impl.LoadResult{Program: p, Bound: r.Costs[0]}
}

func loadText(r impl.LoadResult) string {
	return fmt.Sprintf("code %d of %d in %d at %d, bound %d, %d functions", r.Code, r.Sub, r.Func, r.At, r.Bound, len(r.Program.Funcs))
}

// checkLoad: Check tells of a program what the model does, and so does Load of its bytes, if bytes can tell it; what is told.
func checkLoad(t *testing.T, what string, p impl.Program) impl.LoadResult {
	t.Helper()
	got, want := impl.Check(p), wantedCheck(p)
	if !sameAnswers(got, want) {
		t.Fatalf("%s: %s, not %s", what, loadText(got), loadText(want))
	}
	if want.Sub != 1 {
		if loaded := impl.Load(bytesOf(p)); !sameAnswers(loaded, want) {
			t.Fatalf("%s, by bytes: %s, not %s", what, loadText(loaded), loadText(want))
		}
	}
	return got
}

// refusal is what Check tells of a program that does not pass.
func refusal(sub int64, f int64, at int64) impl.LoadResult {
	return impl.LoadResult{Code: 2, Sub: sub, Func: f, At: at}
}

func TestCheckOfWhatPasses(t *testing.T) {
	loop := "const:6 storelocal:0 @h guard:0:@o n j@h @o r !h:0:5"
	for _, x := range []struct {
		bound int64
		texts []string
	}{
		{2, []string{"r"}},
		{3, []string{"n r"}},
		{31, []string{loop}},
		// The bound is function 0's, whatever the others cost.
		{2, []string{"r", loop}},
		{3, []string{"n r", "n n n n n n r"}},
		{31, []string{loop, "r", "n r"}},
		{14, []string{"call:1 r", "call:2 r", "r"}},
		{12, []string{"call:2 r", "n n n r", "n n n n r"}},
		{37, []string{"call:1 r", loop}},
		{2, []string{"r", "call:0 r", "call:1 r"}},
		{41, []string{"call:2 n n n n r", "n r", loop}},
		// The dearer side of a branch.
		{3 + 8 + 1 + 2, []string{"b z@a n @a b d or:1 storelocal:4 b d and:1 x r"}},
		{3 + (1 + 1 + 8 + 1 + 2) + 2, []string{"b z@a u u div:3 x j@b @a n @b r"}},
		{3 + (1 + 1 + 8 + 1 + 1 + 1) + 2, []string{"b z@a n j@b @a u u div:3 x n n @b r"}},
	} {
		p := several(x.texts...)
		r := checkLoad(t, fmt.Sprint(x.texts), p)
		if !sameAnswers(r, impl.LoadResult{Program: p, Bound: x.bound}) {
			t.Errorf("%q: %s, not the bound %d", x.texts, loadText(r), x.bound)
		}
	}
	// The least program; one in which each list of the program tells something; and one that has many.
	for n, p := range []impl.Program{leastProgram(), passing(), many()} {
		r := checkLoad(t, fmt.Sprint("program ", n), p)
		if r.Code != 0 || !impl.SameProgram(r.Program, p) {
			t.Errorf("program %d: %s", n, loadText(r))
		}
	}
}

// passing has all that a program may have, and passes.
func passing() impl.Program {
	p := several(
		"load:0:1 i conv:2:3 call:1 storelocal:0 const:6 storelocal:1 @h guard:1:@o call:2 j@h @o r !h:1:5",
		"uu>u loadlocal:0 loadlocal:1 add:3 r",
		"load:2:0 u add:3 store:2:0 const:5 storelocal:3 @h guard:3:@o n j@h @o r !h:3:2",
	)
	p.Regions[1] = append(p.Regions[1], 2, 1, 3)
	return p
}

// many is as large as a program may be, in most parts.
func many() impl.Program {
	p := fullProgram()
	p.Certs = nil
	for f := range p.Funcs {
		p.Funcs[f].Code = manyNops(impl.MaxCode)
		code := p.Funcs[f].Code
		if result := p.Funcs[f].Result; result != 0 {
			code[len(code)-2] = instr(impl.OpConst, result-1)
		}
		// Two loops each, of the uint that is the first local of this type.
		for n := range int64(2) {
			at := 10 * n
			copy(code[at:], []impl.Instr{instr(impl.OpConst, 2), instr(impl.OpStoreLocal, 2), instr(impl.OpGuard, 2, 0, at+4), instr(impl.OpJump, 0, 0, at+2)})
			p.Certs = append(p.Certs, impl.Cert{Func: int64(f), Head: at + 2, Counter: 2, Init: p.Consts[2].Word})
		}
	}
	return p
}

// Each of the codes of a bound, with the function and the place.
func TestCheckTellsWhatBarsABound(t *testing.T) {
	for _, x := range []struct {
		sub   int64
		f     int64
		at    int64
		texts []string
	}{
		{2, 0, 0, []string{"call:0 r"}}, {2, 0, 0, []string{"r", "call:1 r"}}, {2, 0, 0, []string{"n", "call:2 x r", "call:1 r"}},
		{3, 0, 1, []string{"n n"}}, {3, 0, 2, []string{"n r n r"}}, {3, 0, 1, []string{"guard:0:@a @b n @a b z@b r"}},
		{3, 2, 0, []string{"r", "r", "n"}}, {3, 1, 1, []string{"call:1 x r", "r r"}}, {3, 2, 2, []string{"call:1 r", "call:2 r", "n r r"}},
		{4, 0, 0, []string{"x r"}}, {4, 0, 2, []string{"n u neg x r"}}, {4, 0, 64, []string{some("u", 65) + "r"}}, {4, 0, 3, []string{"n n u r"}}, {4, 0, 2, []string{"b z@a u @a r"}},
		{4, 1, 0, []string{"call:1 n", "x r"}}, {4, 2, 1, []string{"r", "r", "n guard:4:@a @a r"}}, {4, 1, 1, []string{"call:1 r", ">u i r"}},
		{5, 0, 0, []string{"@h b z@h r"}}, {5, 0, 2, []string{"const:6 storelocal:0 @h guard:0:@o n j@h @o r"}}, {5, 0, 2, []string{"const:6 storelocal:0 @h guard:0:@o n j@h @o r !h:0:6"}},
		{5, 1, 3, []string{"call:1 r", "n const:6 storelocal:0 @h guard:0:@o n j@h @o r !h:1:5"}}, {5, 2, 1, []string{"r", "r", "n @h n b z@h r"}},
		{6, 0, 0, []string{"@h r !h:0:6"}}, {6, 0, 1, []string{"n @h n r !h:0:6"}}, {6, 2, 3, []string{"r", "r", "n n n @h r !h:3:0"}}, {6, 1, 2, []string{"call:1 r", "n n @h r !h:3:0"}},
		{7, 0, 0, []string{"n call:1 call:1 r", bigText}}, {7, 2, 0, []string{"call:2 r", bigText, "call:1 n call:1 r"}}, {7, 1, 0, []string{"r", "call:2 call:2 r", bigText}},
		{8, 0, 0, []string{"n u call:1 x r", tower(64) + "r"}}, {8, 1, 0, []string{"r", "n n u call:2 x r", tower(64) + "r"}},
	} {
		p := several(x.texts...)
		if r := checkLoad(t, fmt.Sprint(x.texts), p); !sameAnswers(r, refusal(x.sub, x.f, x.at)) {
			t.Errorf("%q: %s, not %d in %d at %d", x.texts, loadText(r), x.sub, x.f, x.at)
		}
	}
	faulty := 0
	for _, c := range faultCases() {
		p := someProgram()
		c.change(&p)
		r := checkLoad(t, c.name, p)
		if (r.Sub == 1) != (c.want != 0) || c.want != 0 && !sameAnswers(r, refusal(1, 0, 0)) {
			t.Errorf("%s: %s", c.name, loadText(r))
		}
		if c.want != 0 {
			faulty++
		}
	}
	if faulty < 100 {
		t.Error("faulty programs", faulty)
	}
	for n, p := range append(oddPrograms(), goodPrograms()...) {
		checkLoad(t, fmt.Sprint("program ", n), p)
	}
}

// Several codes at once, in one function and in several: the one that BoundOf tells.
func TestCheckTellsTheFirstOfSeveral(t *testing.T) {
	t.Parallel()
	seen := map[int64]int{}
	for chosen := 1; chosen < 64; chosen++ {
		var codes []int
		for code := 3; code <= 8; code++ {
			if chosen>>(code-3)&1 == 1 {
				codes = append(codes, code)
			}
		}
		slices.Reverse(codes)
		text, code, at := faultyText(codes, 1, 2)
		if r := checkLoad(t, text, several(text, bigText, tower(40)+"r")); !sameAnswers(r, refusal(code, 0, at)) {
			t.Errorf("of %s: %s, not %d at %d", text, loadText(r), code, at)
		}
		later := []string{"call:3 x r", bigText, tower(40) + "r", text}
		if r := checkLoad(t, text, several(later...)); !sameAnswers(r, refusal(code, 3, at)) {
			t.Errorf("of %s as function 3: %s, not %d at %d", text, loadText(r), code, at)
		}
		// Calls that go round count ahead, and a fault of the program ahead of these.
		round := several(append(later, "call:4 r")...)
		if r := checkLoad(t, text, round); !sameAnswers(r, refusal(2, 0, 0)) {
			t.Errorf("of %s and calls that go round: %s", text, loadText(r))
		}
		round.Regions = round.Regions[:2]
		if r := checkLoad(t, text, round); !sameAnswers(r, refusal(1, 0, 0)) {
			t.Errorf("of %s and a fault: %s", text, loadText(r))
		}
		seen[code]++
	}
	for code := int64(3); code <= 8; code++ {
		if seen[code] == 0 {
			t.Error("never:", code)
		}
	}
}

// checkUnread: bytes that are no program's have this code of Decode, and nothing else.
func checkUnread(t *testing.T, what string, b []byte, sub int64) {
	t.Helper()
	if r := impl.Load(b); !sameAnswers(r, impl.LoadResult{Code: 1, Sub: sub}) {
		t.Errorf("%s: %s, not %d", what, loadText(r), sub)
	}
	if code := impl.Decode(b).Code; code != sub {
		t.Errorf("%s: decoded with %d, not %d", what, code, sub)
	}
}

func TestLoadOfWhatDoesNotDecode(t *testing.T) {
	// Each has a good rest, whether its program would pass or not.
	for n, p := range []impl.Program{leastProgram(), passing(), someProgram(), several("x r")} {
		what := fmt.Sprint("program ", n)
		whole, body := bytesOf(p), bodyOf(p)
		checkUnread(t, what+", nil", nil, 1)
		checkUnread(t, what+", empty", []byte{}, 1)
		checkUnread(t, what+", few", whole[:9], 1)
		checkUnread(t, what+", few and summed", summed(body[:5]), 1)
		checkUnread(t, what+", another start", summed(append([]byte("plc1"), body[4:]...)), 1)
		checkUnread(t, what+", one ahead", append([]byte{0}, whole...), 1)
		checkUnread(t, what+", one cut off", whole[:len(whole)-1], 2)
		checkUnread(t, what+", one behind", append(bytes.Clone(whole), 0), 2)
		checkUnread(t, what+", another sum", append(bytes.Clone(body), 1, 2, 3, 4), 2)
		for _, version := range []string{"\x00\x00", "\x02\x00", "\x01\x01", "\xff\xff"} {
			checkUnread(t, what+", another number", summed(append([]byte("PLC1"+version), body[6:]...)), 3)
		}
		for end := 6; end < len(body); end++ {
			checkUnread(t, what+", cut off and summed", summed(body[:end]), 4)
		}
		checkUnread(t, what+", one left", summed(append(bytes.Clone(body), 0)), 5)
		checkUnread(t, what+", many left", summed(append(bytes.Clone(body), body...)), 5)
		faulty := copyOf(p)
		faulty.Funcs[0].Code[0] = impl.Instr{Op: impl.MaxOp + 1}
		checkUnread(t, what+", a fault", bytesOf(faulty), 6)
		for bit := range 8 * len(whole) {
			whole[bit/8] ^= 1 << (bit % 8)
			sub := int64(2)
			if bit < 32 {
				sub = 1
			}
			checkUnread(t, what+", a bit turned", whole, sub)
			whole[bit/8] ^= 1 << (bit % 8)
		}
	}
	told := 0
	for _, c := range faultCases() {
		p := someProgram()
		c.change(&p)
		if c.want != 0 && len(p.Regions) == 3 && fitsBytes(p) {
			checkUnread(t, c.name, bytesOf(p), 6)
			told++
		}
	}
	for _, p := range tooMany() {
		checkUnread(t, "too many", bytesOf(p), 6)
	}
	if told < 100 {
		t.Error("faulty programs in bytes", told)
	}
}

// Bytes with one bit turned and a good sum: Load is Decode and then Check.
func TestLoadIsDecodeAndThenCheck(t *testing.T) {
	t.Parallel()
	codes, subs := map[int64]int{}, map[int64]int{}
	for _, p := range []impl.Program{leastProgram(), passing(), several("call:1 r", "u storelocal:0 @h guard:0:@o n j@h @o r !h:0:6")} {
		body := bodyOf(p)
		for bit := 32; bit < 8*len(body); bit++ {
			body[bit/8] ^= 1 << (bit % 8)
			want := impl.LoadResult{Code: 1}
			if r := wantedDecode(body); r.Code != 0 {
				want.Sub = r.Code
			} else {
				want = wantedCheck(r.Program)
			}
			if got := impl.Load(summed(body)); !sameAnswers(got, want) {
				t.Fatalf("bit %d: %s, not %s", bit, loadText(got), loadText(want))
			}
			codes[want.Code]++
			if want.Code == 2 {
				subs[want.Sub]++
			}
			body[bit/8] ^= 1 << (bit % 8)
		}
	}
	if codes[0] < 20 || codes[1] < 100 || codes[2] < 50 || len(subs) < 4 {
		t.Error("seldom:", codes, subs)
	}
}

func TestLoadOfManyPrograms(t *testing.T) {
	t.Parallel()
	d := dice(73)
	seen := map[int64]int{}
	for round := range 2500 {
		p := d.certifiedProgram(false)
		if longest(p) > 90 || len(p.Certs) > impl.MaxCerts {
			continue
		}
		for range d.next(3) {
			d.spoilBound(&p)
		}
		if impl.ProgramFault(p) != 0 {
			if r := impl.Check(p); !sameAnswers(r, refusal(1, 0, 0)) {
				t.Fatalf("round %d: %s", round, loadText(r))
			}
			continue
		}
		r := checkLoad(t, fmt.Sprint("round ", round), p)
		seen[r.Sub]++
	}
	for _, sub := range []int64{0, 2, 3, 4, 5, 6} {
		if seen[sub] < 10 {
			t.Error("seldom:", sub, seen)
		}
	}
}

// At the limit of costs: the bound is told just up to it.
func TestBoundsThatPass(t *testing.T) {
	const init = (impl.MaxCost - 7) / 4
	for nops, bound := range []int64{impl.MaxCost - 1, impl.MaxCost, 0, 0} {
		p := several(some("n", nops) + fmt.Sprintf("u storelocal:0 @h guard:0:@o j@h @o r !h:0:%d", init))
		p.Consts[2].Word = init
		want := refusal(7, 0, 0)
		if bound != 0 {
			want = impl.LoadResult{Program: p, Bound: bound}
		}
		if r := checkLoad(t, fmt.Sprint("nops ", nops), p); !sameAnswers(r, want) {
			t.Errorf("%d nops: %s, not %s", nops, loadText(r), loadText(want))
		}
	}
	dear := strings.ReplaceAll(bigText, "r !", "n n n r !")
	for text, sub := range map[string]int64{"call:1 r": 0, "call:1 call:1 r": 7} {
		if r := checkLoad(t, text, several(text, dear)); r.Sub != sub || sub == 0 && r.Bound != 2+4*(1<<29)+2+3+2+4+2 {
			t.Errorf("%s: %s", text, loadText(r))
		}
	}
}

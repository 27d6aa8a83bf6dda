package tests

import (
	"fmt"
	"slices"
	"testing"

	"loop.example/s02548/impl"
)

// wantedScans are runs of the checked machine one behind the other, as far as this can run.
func wantedScans(b []byte, inputs [][]uint32) impl.ScanResult {
	r := impl.Load(b)
	switch {
	case r.Code != 0:
		return impl.ScanResult{Code: r.Code, Sub: r.Sub}
	case len(inputs) > 1000:
		return impl.ScanResult{Code: 3}
	case r.Bound*int64(len(inputs)) > 4194304:
		return impl.ScanResult{Code: 4}
	}
	m := lean(r.Program)
	var scans impl.ScanResult
	for _, words := range inputs {
		refused := len(words) != len(r.Program.Regions[0])
		if !refused {
			m.In = words
			s := impl.Run(r.Program, m, mostSteps)
			if !s.Done {
				panic("no end that the checked machine can come to")
			}
			m = impl.MemoryOf(s)
		}
		scans.Out = append(scans.Out, slices.Clone(m.Out))
		scans.Keep = append(scans.Keep, slices.Clone(m.Keep))
		scans.Refuse = append(scans.Refuse, refused)
	}
	return scans
}

func checkScans(t *testing.T, what string, p impl.Program, inputs [][]uint32) impl.ScanResult {
	t.Helper()
	b := bytesOf(p)
	got, want := impl.Scans(b, inputs), wantedScans(b, inputs)
	if !sameAnswers(got, want) {
		t.Fatalf("%s of %v: %+v, not %+v", what, inputs, got, want)
	}
	return got
}

// summing adds the input to a kept cell, counts its scans in another, takes the last sum over to an output, and puts a bool out as a number.
func summing() impl.Program {
	p := several("load:2:0 store:1:0 load:2:0 load:0:1 add:3 store:2:0 load:2:1 const:4 add:3 store:2:1 load:0:0 conv:1:3 load:1:1 add:3 store:1:1 r")
	p.Regions = [][]int64{{1, 3}, {3, 3, 1}, {3, 3}}
	return p
}

// By hand: what is kept goes on, and outputs do.
func TestScansGoOn(t *testing.T) {
	r := checkScans(t, "summing", summing(), [][]uint32{{1, 5}, {0, 7}, {1, 0}, {1, 0xffffffff}, {0, 1}})
	want := impl.ScanResult{
		Out:    [][]uint32{{0, 1, 0}, {5, 1, 0}, {12, 2, 0}, {12, 3, 0}, {11, 3, 0}},
		Keep:   [][]uint32{{5, 1}, {12, 2}, {12, 3}, {11, 4}, {12, 5}},
		Refuse: make([]bool, 5),
	}
	if !sameAnswers(r, want) {
		t.Errorf("%+v, not %+v", r, want)
	}
	// A list is a scan by itself: the first ones are the same, however many follow.
	inputs := [][]uint32{{1, 5}, {0, 7}, {1, 0}, {1, 0xffffffff}, {0, 1}}
	for n := range len(inputs) + 1 {
		part := checkScans(t, "summing", summing(), inputs[:n])
		if !sameAnswers(part, impl.ScanResult{Out: want.Out[:n], Keep: want.Keep[:n], Refuse: want.Refuse[:n]}) {
			t.Errorf("%d lists: %+v", n, part)
		}
	}
}

// Inputs of a bool are true if they are not 0.
func TestScansOfBools(t *testing.T) {
	for _, word := range edgeWords() {
		r := checkScans(t, "a bool", summing(), [][]uint32{{word, 0}, {word, 1}, {0, 2}, {word, 3}})
		of := truth(word != 0)
		for n, sum := range []uint32{of, 2 * of, 2 * of, 3 * of} {
			if r.Out[n][1] != sum || r.Refuse[n] {
				t.Errorf("%d: %v, not %d", word, r.Out[n], sum)
			}
		}
	}
	// Held against one that was true ahead of it.
	p := several("load:0:0 store:2:0 load:2:0 load:0:1 eq:1 conv:1:3 store:1:0 r")
	p.Regions = [][]int64{{1, 1}, {3}, {1}}
	for _, x := range edgeWords() {
		for _, y := range edgeWords() {
			r := checkScans(t, "two bools", p, [][]uint32{{x, y}, {y, x}})
			if want := truth((x != 0) == (y != 0)); r.Out[0][0] != want || r.Keep[0][0] != truth(x != 0) || r.Keep[1][0] != truth(y != 0) {
				t.Errorf("%d and %d: %v %v", x, y, r.Out, r.Keep)
			}
		}
	}
}

// Lists of another number change nothing, at the first place, in between and at the last; all the others go on as if they were not there.
func TestScansThatAreRefused(t *testing.T) {
	odd := [][]uint32{nil, {}, {1}, {0, 1, 2}, {7, 7, 7, 7, 7, 7}, make([]uint32, 3000)}
	good := [][]uint32{{1, 5}, {3, 7}, {0, 2}}
	alone := checkScans(t, "good", summing(), good)
	for _, bad := range odd {
		for places := range 16 {
			var inputs [][]uint32
			var from []int
			for n := range 4 {
				if places>>n&1 == 1 {
					inputs, from = append(inputs, bad), append(from, -1)
				}
				if n < 3 {
					inputs, from = append(inputs, good[n]), append(from, n)
				}
			}
			r := checkScans(t, "some refused", summing(), inputs)
			out, keep := []uint32{0, 0, 0}, []uint32{0, 0}
			for n, of := range from {
				if of >= 0 {
					out, keep = alone.Out[of], alone.Keep[of]
				}
				if r.Refuse[n] != (of < 0) || !slices.Equal(r.Out[n], out) || !slices.Equal(r.Keep[n], keep) {
					t.Errorf("%d of %v: %t %v %v", n, inputs, r.Refuse[n], r.Out[n], r.Keep[n])
				}
			}
		}
	}
	// All of them, and where there are no inputs.
	if r := checkScans(t, "all refused", summing(), odd); slices.Contains(r.Refuse, false) || r.Code != 0 || r.Out[5][0] != 0 || len(r.Keep[0]) != 2 {
		t.Errorf("all refused: %+v", r)
	}
	p := several("load:2:0 const:4 add:3 store:2:0 r")
	p.Regions[0] = nil
	r := checkScans(t, "no inputs", p, [][]uint32{nil, {}, {1}, nil, {0, 0}, {}})
	if !slices.Equal(r.Refuse, []bool{false, false, true, false, true, false}) || r.Keep[5][0] != 4 || r.Keep[2][0] != 2 || r.Keep[4][0] != 3 {
		t.Errorf("no inputs: %+v", r)
	}
	full := several("loadat:0:0:255 r")
	full.Regions[0] = slices.Repeat([]int64{3}, impl.MaxCells)
	full.Funcs[0].Code = worded("load:2:0 loadat:0:0:255 store:1:0 load:2:0 const:4 add:3 store:2:0 r")
	r = checkScans(t, "many inputs", full, [][]uint32{numbered(256, 50), numbered(255, 90), numbered(257, 90), numbered(256, 60)})
	if !slices.Equal(r.Refuse, []bool{false, true, true, false}) || r.Out[2][0] != 50 || r.Out[3][0] != 61 {
		t.Errorf("many inputs: %+v", r)
	}
}

// Nothing but outputs and what is kept goes on: inputs, locals and values do not.
func TestScansBeginAnew(t *testing.T) {
	p := several("loadlocal:0 store:1:0 load:1:1 const:4 add:3 store:1:1 const:7 storelocal:0 b storelocal:4 call:1 r", "loadlocal:2 store:1:2 const:7 storelocal:2 loadlocal:4 store:1:4 b storelocal:4 r")
	r := checkScans(t, "locals", p, [][]uint32{{0, 1}, {0, 2}, {0, 3}})
	for n := range 3 {
		if !slices.Equal(r.Out[n], []uint32{0, uint32(n) + 1, 0, 0, 0}) {
			t.Errorf("scan %d: %v", n, r.Out[n])
		}
	}
	// A program without cells has nothing to tell, but it is run.
	r = checkScans(t, "the least", leastProgram(), [][]uint32{nil, {1}, {}})
	if !slices.Equal(r.Refuse, []bool{false, true, false}) || len(r.Out) != 3 || len(r.Keep) != 3 || len(r.Out[0])+len(r.Keep[2]) != 0 {
		t.Errorf("the least: %+v", r)
	}
}

// What Load refuses has its code, and nothing else, however many lists there are.
func TestScansOfWhatDoesNotLoad(t *testing.T) {
	t.Parallel()
	lists := [][][]uint32{nil, {}, {nil}, {{0, 1}}, make([][]uint32, 1000), make([][]uint32, 1001), make([][]uint32, 100000)}
	codes, subs := map[int64]int{}, map[int64]int{}
	for n, b := range oddBytes() {
		r := impl.Load(b)
		codes[r.Code]++
		if r.Code == 0 {
			continue
		}
		if r.Code == 2 {
			subs[r.Sub]++
		}
		for _, inputs := range lists {
			if got := impl.Scans(b, inputs); !sameAnswers(got, impl.ScanResult{Code: r.Code, Sub: r.Sub}) {
				t.Errorf("bytes %d with %d lists: %+v", n, len(inputs), got)
			}
		}
	}
	if codes[1] < 20 || codes[2] < 20 || len(subs) < 7 {
		t.Error("seldom:", codes, subs)
	}
	for sub, b := range map[int64][]byte{1: []byte("PLC1"), 2: append(bodyOf(summing()), 1, 2, 3, 4), 3: summed(append([]byte("PLC1\x02\x00"), bodyOf(summing())[6:]...)), 4: summed(bodyOf(summing())[:20]), 5: summed(append(bodyOf(summing()), 0)), 6: bytesOf(several("load:0:9 r"))} {
		if got := impl.Scans(b, [][]uint32{{1, 2}}); !sameAnswers(got, impl.ScanResult{Code: 1, Sub: sub}) {
			t.Errorf("no program by %d: %+v", sub, got)
		}
	}
	for sub, p := range map[int64]impl.Program{2: several("call:0 r"), 3: several("n"), 4: several("x r"), 5: several("@h b z@h r"), 6: several("@h r !h:0:6"), 7: several("call:1 call:1 r", bigText), 8: several("u call:1 x r", tower(64)+"r")} {
		if got := impl.Scans(bytesOf(p), [][]uint32{{1, 2}}); !sameAnswers(got, impl.ScanResult{Code: 2, Sub: sub}) {
			t.Errorf("no bound by %d: %+v", sub, got)
		}
	}
}

// checkLists: so many lists, each with two inputs, of a program with just this bound.
func checkLists(t *testing.T, bound int64, lists int, code int64) {
	t.Helper()
	p := dear(bound)
	inputs := slices.Repeat([][]uint32{{1, 2}}, lists)
	// Lists that are refused count as the others do.
	if lists > 2 {
		inputs[1] = nil
	}
	got := impl.Scans(bytesOf(p), inputs)
	if code != 0 {
		if !sameAnswers(got, impl.ScanResult{Code: code}) {
			t.Errorf("%d lists at %d: code %d, %d entries, not the code %d", lists, bound, got.Code, len(got.Out), code)
		}
		return
	}
	if got.Code != 0 || got.Sub != 0 || len(got.Out) != lists || len(got.Keep) != lists || len(got.Refuse) != lists {
		t.Fatalf("%d lists at %d: code %d of %d, %d entries", lists, bound, got.Code, got.Sub, len(got.Out))
	}
	scans := uint32(0)
	for n := range inputs {
		if inputs[n] != nil {
			scans++
		}
		if got.Refuse[n] != (inputs[n] == nil) || !slices.Equal(got.Keep[n], []uint32{scans * dearTurns(bound), scans}) || !slices.Equal(got.Out[n], make([]uint32, 5)) {
			t.Fatalf("%d lists at %d, list %d: %t %v %v", lists, bound, n, got.Refuse[n], got.Out[n], got.Keep[n])
		}
	}
}

func TestScansAtTheMost(t *testing.T) {
	t.Parallel()
	// As many lists as there may be, and more.
	for lists, code := range map[int]int64{999: 0, 1000: 0, 1001: 3, 1002: 3, 5000: 3, 1 << 20: 3} {
		checkLists(t, 30, lists, code)
		checkLists(t, 4194, lists, code)
	}
	// A product of just MaxRun, and of one more: that is 5 * 397 * 2113.
	for lists := 1; lists <= 512; lists *= 2 {
		checkLists(t, int64(impl.MaxRun/lists), lists, 0)
		checkLists(t, int64(impl.MaxRun/lists), lists+1, 4)
		checkLists(t, int64(impl.MaxRun/lists)+1, lists, 4)
	}
	for _, lists := range []int{1, 5, 397} {
		checkLists(t, int64((impl.MaxRun+1)/lists), lists, 4)
		checkLists(t, int64((impl.MaxRun+1)/lists), lists-1, 0)
		checkLists(t, int64((impl.MaxRun+1)/lists)-1, lists, 0)
	}
	checkLists(t, 4194, 1000, 0)
	checkLists(t, 4195, 1000, 4)
	checkLists(t, 4195, 999, 0)
	// Both at once: there are too many lists.
	checkLists(t, 4195, 1001, 3)
	checkLists(t, impl.MaxRun, 1001, 3)
	checkLists(t, impl.MaxCost, 1001, 3)
	checkLists(t, impl.MaxCost, 100000, 3)
	// Beyond all, with one list and with many.
	for _, bound := range []int64{impl.MaxRun + 1, 1 << 31, impl.MaxCost - 1, impl.MaxCost} {
		for _, lists := range []int{1, 2, 3, 999, 1000} {
			checkLists(t, bound, lists, 4)
		}
	}
}

// No list at all is nothing to do, whatever the bound.
func TestScansOfNoList(t *testing.T) {
	for _, bound := range []int64{30, impl.MaxRun, impl.MaxRun + 1, impl.MaxCost} {
		for _, inputs := range [][][]uint32{nil, {}} {
			if got := impl.Scans(bytesOf(dear(bound)), inputs); !sameAnswers(got, impl.ScanResult{}) {
				t.Errorf("at %d: %+v", bound, got)
			}
		}
	}
}

// Programs by chance, with lists by chance, some of another number: against runs one behind the other.
func TestScansOfManyPrograms(t *testing.T) {
	t.Parallel()
	d := dice(127)
	seen, refused, differ := 0, 0, 0
	for round := range 500 {
		p := d.shuffled()
		if round%2 == 0 {
			p = d.certifiedProgram(false)
		}
		if longest(p) > 200 || len(p.Certs) > impl.MaxCerts {
			continue
		}
		if r := impl.Check(p); r.Bound > 20000 || r.Code != 0 {
			continue
		}
		var inputs [][]uint32
		for range d.next(12) {
			words := d.memory(p).In
			if d.next(4) == 0 {
				words = make([]uint32, d.next(8))
			}
			inputs = append(inputs, words)
		}
		r := checkScans(t, fmt.Sprint("round ", round), p, inputs)
		for n := range r.Out {
			seen++
			if r.Refuse[n] {
				refused++
			}
			if n > 0 && (!slices.Equal(r.Out[n], r.Out[n-1]) || !slices.Equal(r.Keep[n], r.Keep[n-1])) {
				differ++
			}
		}
	}
	if seen < 1000 || refused < 100 || differ < 400 {
		t.Error("scans", seen, "refused", refused, "changed something", differ)
	}
}

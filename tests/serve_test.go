package tests

import (
	"fmt"
	"slices"
	"strings"
	"testing"

	"loop.example/s02548/impl"
)

func wordsText(words []uint32) string {
	text := ""
	for _, word := range words {
		text += fmt.Sprint(" ", word)
	}
	return text
}

// behindScan is the memory behind a scan: the checked machine's, or the fast one's where that can't come to the end.
func behindScan(p impl.Program, m impl.Memory) impl.Memory {
	if s := impl.Run(p, m, mostSteps); s.Done {
		return impl.MemoryOf(s)
	}
	return impl.RunFast(p, m)
}

// wantedServe is what the document asks of Serve, by Check and scans one behind the other.
func wantedServe(text string) string {
	r, good := wantedTold(text)
	if !good {
		return "bad\n"
	}
	p := r.program
	if impl.ProgramFault(p) != 0 {
		return "fault\n"
	}
	c := impl.Check(p)
	if c.Code != 0 {
		return fmt.Sprintf("refused %d %d %d\n", c.Sub, c.Func, c.At)
	}
	var answer strings.Builder
	fmt.Fprintf(&answer, "bound %d\n", c.Bound)
	if c.Bound*int64(len(r.scans)) > 4194304 {
		return answer.String() + "long\n"
	}
	m := lean(p)
	for _, inputs := range r.scans {
		if len(inputs) != len(p.Regions[0]) {
			answer.WriteString("refused\n")
			continue
		}
		m.In = inputs
		m = behindScan(p, m)
		answer.WriteString("out" + wordsText(m.Out) + "\nkeep" + wordsText(m.Keep) + "\n")
	}
	return answer.String()
}

// servedByScans is the answer that the scans of the program's bytes tell.
func servedByScans(p impl.Program, bound int64, scans [][]uint32) string {
	r := impl.Scans(impl.Encode(p), scans)
	answer := fmt.Sprintf("bound %d\n", bound)
	if r.Code == 4 {
		return answer + "long\n"
	}
	for n, refused := range r.Refuse {
		if refused {
			answer += "refused\n"
		} else {
			answer += "out" + wordsText(r.Out[n]) + "\nkeep" + wordsText(r.Keep[n]) + "\n"
		}
	}
	return answer
}

// checkServe: the answer is what the model tells, and what Scans tells where it may be asked.
func checkServe(t *testing.T, what string, text string) string {
	t.Helper()
	got := impl.Serve(text)
	if want := wantedServe(text); got != want {
		t.Fatalf("%s: %s is answered by %s, not by %s", what, shortText(text), shortText(got), shortText(want))
	}
	if strings.HasPrefix(got, "bound ") {
		r, _ := wantedTold(text)
		c := impl.Check(r.program)
		if len(r.scans) <= impl.MaxScans {
			if want := servedByScans(r.program, c.Bound, r.scans); got != want {
				t.Fatalf("%s: %s is answered by %s, but Scans tells %s", what, shortText(text), shortText(got), shortText(want))
			}
		}
	}
	return got
}

func checkAnswer(t *testing.T, what string, text string, want string) {
	t.Helper()
	if got := checkServe(t, what, text); got != want {
		t.Errorf("%s: %s is answered by %s, not by %s", what, shortText(text), shortText(got), shortText(want))
	}
}

func scanText(scans ...[]uint32) string {
	text := ""
	for _, words := range scans {
		text += "scan" + wordsText(words) + "\n"
	}
	return text
}

// By hand: what is kept goes on, and so do outputs, also across scans that are refused.
func TestServeGoesOn(t *testing.T) {
	text := wantedText(summing())
	const first, second, third = "out 0 1 0\nkeep 5 1\n", "out 5 1 0\nkeep 12 2\n", "out 12 2 0\nkeep 12 3\n"
	bound := fmt.Sprintf("bound %d\n", impl.Check(summing()).Bound)
	for scans, want := range map[string]string{
		"":                               "",
		"scan 1 5\n":                     first,
		"scan 1 5\nscan 0 7\n":           first + second,
		"scan 1 5\nscan 0 7\nscan 1 0\n": first + second + third,
		"scan\n":                         "refused\n",
		"scan 1\n":                       "refused\n",
		"scan 1 5 1\n":                   "refused\n",
		"scan" + strings.Repeat(" 9", 3000) + "\n":                    "refused\n",
		"scan\nscan 1\nscan 1 2 3\n":                                  "refused\nrefused\nrefused\n",
		"scan\nscan 1 5\nscan 0 7\n":                                  "refused\n" + first + second,
		"scan 1 5\nscan\nscan 0 7\nscan 1\n":                          first + "refused\n" + second + "refused\n",
		"scan 1 5\nscan 9 9 9\nscan 0 7\nscan 1 0\n":                  first + "refused\n" + second + third,
		"scan 1 5\nscan 0 7\nscan 1 0\nscan 1 4294967295\nscan 0 1\n": first + second + third + "out 12 3 0\nkeep 11 4\nout 11 3 0\nkeep 12 5\n",
		// Inputs of a bool are true if they are not 0.
		"scan 7 5\nscan 0 7\nscan 2 0\n": first + second + third, "scan 4294967295 5\n": first, "scan 0 5\n": "out 0 0 0\nkeep 5 1\n", "scan 2147483648 5\nscan 256 5\n": first + "out 5 2 0\nkeep 10 2\n",
	} {
		checkAnswer(t, "summing", text+scans, bound+want)
	}
	if bound != "bound 27\n" {
		t.Errorf("%q", bound)
	}
}

// Regions with and without cells, and the greatest words.
func TestServeOfRegions(t *testing.T) {
	for text, want := range map[string]string{
		leastText: "bound 2\n", leastText + "scan\n": "bound 2\nout\nkeep\n", leastText + "scan\nscan\nscan 1\nscan\n": "bound 2\nout\nkeep\nout\nkeep\nrefused\nout\nkeep\n", leastText + "scan 0\n": "bound 2\nrefused\n",
		"region int\nregion\nregion\nfunc : none :\nreturn\nscan 5\nscan\n":                                                                                                    "bound 2\nout\nkeep\nrefused\n",
		"region\nregion int bool\nregion\nfunc : none :\nreturn\nscan\n":                                                                                                       "bound 2\nout 0 0\nkeep\n",
		"region\nregion\nregion uint uint uint\nfunc : none :\nreturn\nscan\nscan 0 0 0\n":                                                                                     "bound 2\nout\nkeep 0 0 0\nrefused\n",
		"region\nregion uint\nregion\nconst uint 4294967295\nfunc : none :\nconst 0\nstore 1 0\nreturn\nscan\n":                                                                "bound 5\nout 4294967295\nkeep\n",
		"region int\nregion int\nregion int\nfunc : none :\nload 0 0\ndup\nneg\nstore 1 0\nstore 2 0\nreturn\nscan 1\n":                                                        "bound 10\nout 4294967295\nkeep 1\n",
		"region int\nregion int\nregion int\nfunc : none :\nload 2 0\nstore 1 0\nload 0 0\nstore 2 0\nreturn\nscan 4294967295\nscan 2147483648\nscan 10\n":                     "bound 10\nout 0\nkeep 4294967295\nout 4294967295\nkeep 2147483648\nout 2147483648\nkeep 10\n",
		"region bool\nregion uint\nregion bool\nfunc : none :\nload 0 0\ndup\nconv bool uint\nstore 1 0\nstore 2 0\nreturn\nscan 0\nscan 1\nscan 2\nscan 0\nscan 4294967295\n": "bound 10\nout 0\nkeep 0\nout 1\nkeep 1\nout 1\nkeep 1\nout 0\nkeep 0\nout 1\nkeep 1\n",
	} {
		checkAnswer(t, "regions", text, want)
	}
	// As many cells as there may be.
	p := several("load:2:255 const:4 add:3 store:2:255 load:0:255 store:1:255 r")
	p.Regions = [][]int64{slices.Repeat([]int64{3}, 256), slices.Repeat([]int64{3}, 256), slices.Repeat([]int64{3}, 256)}
	zeros := strings.Repeat(" 0", 255)
	checkAnswer(t, "many cells", wantedText(p)+scanText(numbered(256, 1000), numbered(255, 7), numbered(257, 7), numbered(256, 5)), "bound 12\nout"+zeros+" 1255\nkeep"+zeros+" 1\nrefused\nrefused\nout"+zeros+" 260\nkeep"+zeros+" 2\n")
}

// What is not of the form is bad, whatever it is else.
func TestServeOfWhatIsBad(t *testing.T) {
	good := wantedText(summing())
	faulty := strings.Replace(good, "region bool uint\n", "region bool bool\n", 1)
	faulty = strings.Replace(faulty, "load 0 1", "load 0 7", 1)
	unbounded := leastText[:len(leastText)-7] + "drop\nreturn\n"
	for what, text := range map[string]string{"good": good, "with a fault": faulty, "without a bound": unbounded} {
		if strings.HasPrefix(checkServe(t, what, text+"scan 1 2\n"), "bad") {
			t.Fatal(what, "is bad")
		}
		for _, scans := range []string{
			"scan x\n", "scan 1 x\n", "scan 1 2", "scan", " scan 1 2\n", "scan 1 2 \n", "scan  1 2\n", "scan 1  2\n", "scan \n", "scan\t1 2\n", "Scan 1 2\n", "scans 1 2\n", "sca 1 2\n", "scan 1 2\r\n", "scan 1,2\n", "scan :\n", "scan none\n", "scan uint\n", "scan bool 1\n", "\n", " \n", "x\n", "scan 1 2\n\n", "\nscan 1 2\n", "scan 1 2\n \n", "scan 1 2\nscan", "scan 1 2\nscan x\n", "scan x\nscan 1 2\n", "scan 1 2 scan 1 2\n", "scan 1 2\n1 2\n", "1 2\n", "out 1\n", "scan 1 2\x00\n", "\xff\n", "scan \xff\n", "scan 1 2\nend\n",
			"scan 1 2\nnop\n", "scan 1 2\nreturn\n", "scan 1 2\nconst uint 1\n", "scan 1 2\nconst 0\n", "scan 1 2\nregion\n", "scan 1 2\nfunc : none :\nreturn\n", "scan 1 2\nfunc : none :\n", "scan 1 2\nloop 0 0 0 0\n", "scan 1 2\nloop 0 0 0 0\nscan 1 2\n", "scan 1 2\nnop\nscan 1 2\n", "scan\nregion\nregion\nregion\n",
		} {
			checkAnswer(t, what+" and "+scans, text+scans, "bad\n")
		}
		for _, word := range wrongNumerals() {
			checkAnswer(t, what, text+"scan "+word+" 1\n", "bad\n")
			checkAnswer(t, what, text+"scan 1 "+word+"\n", "bad\n")
			checkAnswer(t, what, text+"scan "+word+"\n", "bad\n")
			checkAnswer(t, what, text+"scan 1 2\nscan 1 2 "+word+"\n", "bad\n")
		}
		// A scan at each other place, and lines that are missing.
		lines := linesOf(text)
		for n := range lines {
			checkAnswer(t, what, strings.Join(slices.Insert(slices.Clone(lines), n, "scan 1 2\n"), ""), "bad\n")
			checkAnswer(t, what, strings.Join(slices.Insert(slices.Clone(lines), n, "\n"), "")+"scan 1 2\n", "bad\n")
			checkAnswer(t, what, strings.Join(slices.Insert(slices.Clone(lines), n, "x\n"), "")+"scan 1 2\n", "bad\n")
		}
		for n := range 3 {
			checkAnswer(t, what, strings.Join(slices.Delete(slices.Clone(lines), n, n+1), "")+"scan 1 2\n", "bad\n")
		}
	}
	for _, text := range []string{"", "\n", "scan\n", "scan 1 2\n", "region\nregion\nregion\n", "region\nregion\nregion\nscan\n", "region\nregion\nregion\nconst uint 1\nscan\n", "region\nregion\nfunc : none :\nreturn\nscan\n", "bad\n", "\xff\xfe", strings.Repeat("scan\n", 10000), strings.Repeat("\n", impl.MaxText), strings.Repeat("\xc3\n", impl.MaxText/2)} {
		checkAnswer(t, "nothing", text, "bad\n")
	}
}

// Right numbers are taken as they are, at each place.
func TestServeOfNumbers(t *testing.T) {
	const text = "region uint int\nregion uint\nregion int\nfunc : none :\nload 0 0\nstore 1 0\nload 0 1\nstore 2 0\nreturn\n"
	for _, x := range rightNumerals() {
		for _, y := range rightNumerals() {
			checkAnswer(t, "numbers", text+"scan "+x+" "+y+"\n", "bound 10\nout "+x+"\nkeep "+y+"\n")
		}
		checkAnswer(t, "refused", text+"scan "+x+"\n", "bound 10\nrefused\n")
	}
}

func TestServeOfFaults(t *testing.T) {
	t.Parallel()
	seen := map[int64]int{}
	for _, c := range faultCases() {
		p := someProgram()
		c.change(&p)
		if c.want == 0 || !canBeTold(p) {
			continue
		}
		for _, scans := range []string{"", "scan\n", "scan 1 2 3 4 5 6\nscan\n"} {
			checkAnswer(t, c.name, wantedText(p)+scans, "fault\n")
		}
		checkAnswer(t, c.name, wantedText(p)+"scan 01\n", "bad\n")
		seen[c.want]++
	}
	for fault := int64(1); fault <= 5; fault++ {
		if seen[fault] < 3 {
			t.Error("seldom the fault", fault, seen)
		}
	}
	checkAnswer(t, "without instructions", "region\nregion\nregion\nfunc : none :\nscan\n", "fault\n")
	checkAnswer(t, "without instructions and scans", "region\nregion\nregion\nfunc : none :\n", "fault\n")
	// Many scans do not matter, as there is no bound.
	checkAnswer(t, "many scans", "region\nregion\nregion\nfunc : none :\n"+strings.Repeat("scan\n", 13000), "fault\n")
}

package tests

import (
	"fmt"
	"slices"
	"strings"
	"testing"

	"loop.example/s02548/impl"
)

// Each code that bars a bound, with the function and the place, by hand; scans do not matter then.
func TestServeOfWhatIsRefused(t *testing.T) {
	t.Parallel()
	seen := map[string]int{}
	for _, x := range []struct {
		want  string
		texts []string
	}{
		{"refused 2 0 0\n", []string{"call:0 r"}}, {"refused 2 0 0\n", []string{"r", "call:1 r"}}, {"refused 2 0 0\n", []string{"n", "call:2 x r", "call:1 r"}},
		{"refused 3 0 1\n", []string{"n n"}}, {"refused 3 2 0\n", []string{"r", "r", "n"}}, {"refused 3 1 1\n", []string{"call:1 x r", "r r"}},
		{"refused 4 0 0\n", []string{"x r"}}, {"refused 4 0 64\n", []string{some("u", 65) + "r"}}, {"refused 4 1 0\n", []string{"call:1 n", "x r"}}, {"refused 4 2 1\n", []string{"r", "r", "n guard:4:@a @a r"}},
		{"refused 5 0 0\n", []string{"@h b z@h r"}}, {"refused 5 0 2\n", []string{"const:6 storelocal:0 @h guard:0:@o n j@h @o r"}}, {"refused 5 1 3\n", []string{"call:1 r", "n const:6 storelocal:0 @h guard:0:@o n j@h @o r !h:1:5"}},
		{"refused 6 0 0\n", []string{"@h r !h:0:6"}}, {"refused 6 2 3\n", []string{"r", "r", "n n n @h r !h:3:0"}},
		{"refused 7 0 0\n", []string{"n call:1 call:1 r", bigText}}, {"refused 7 2 0\n", []string{"call:2 r", bigText, "call:1 n call:1 r"}},
		{"refused 8 0 0\n", []string{"n u call:1 x r", tower(64) + "r"}}, {"refused 8 1 0\n", []string{"r", "n n u call:2 x r", tower(64) + "r"}},
	} {
		for _, scans := range []string{"", "scan\n", "scan 1 2\n", "scan 1 2\nscan 1 2 3\nscan\n", strings.Repeat("scan 1 2\n", 6000)} {
			text := wantedText(several(x.texts...)) + scans
			checkAnswer(t, fmt.Sprint(x.texts), text, x.want)
			checkAnswer(t, fmt.Sprint(x.texts), text+"scan x\n", "bad\n")
		}
		seen[x.want[:9]]++
	}
	// The greatest place and function.
	p := several(slices.Repeat([]string{"r"}, 32)...)
	p.Funcs[31].Code = append(manyNops(1023)[:1022], instr(impl.OpDrop), ret())
	checkAnswer(t, "the last", wantedText(p), "refused 4 31 1022\n")
	list := refused()
	for sub := int64(2); sub <= 8; sub++ {
		for n, p := range list[sub] {
			if text := wantedText(p); len(text) <= impl.MaxText {
				r := impl.Check(p)
				checkAnswer(t, fmt.Sprint(n, " of ", sub), text, fmt.Sprintf("refused %d %d %d\n", sub, r.Func, r.At))
				seen[fmt.Sprint("refused ", sub)]++
			}
		}
	}
	if len(seen) != 7 {
		t.Error("seldom:", seen)
	}
}

// Without scans the bound alone is told, however great.
func TestServeWithoutScans(t *testing.T) {
	t.Parallel()
	for _, bound := range []int64{12, 30, 1000, impl.MaxRun - 1, impl.MaxRun, impl.MaxRun + 1, 1 << 31, impl.MaxCost - 1, impl.MaxCost} {
		checkAnswer(t, "no scan", wantedText(dear(bound)), fmt.Sprintf("bound %d\n", bound))
	}
	for n, p := range slices.Concat(loadPrograms(), goodPrograms(), []impl.Program{passing(), many()}) {
		if canBeTold(p) && len(wantedText(p)) <= impl.MaxText {
			checkServe(t, fmt.Sprint("program ", n), wantedText(p))
		}
	}
	checkAnswer(t, "passing", wantedText(passing()), fmt.Sprintf("bound %d\n", impl.Check(passing()).Bound))
}

// checkTimes: so many scans of a program of just this bound, some of them refused, which count as the others do.
func checkTimes(t *testing.T, bound int64, scans int, long bool) {
	t.Helper()
	var text strings.Builder
	text.WriteString(wantedText(dear(bound)))
	want := fmt.Sprintf("bound %d\n", bound)
	var answer strings.Builder
	good := uint32(0)
	for n := range scans {
		if n%3 == 1 {
			text.WriteString("scan\n")
			answer.WriteString("refused\n")
			continue
		}
		text.WriteString("scan 1 2\n")
		good++
		fmt.Fprintf(&answer, "out 0 0 0 0 0\nkeep %d %d\n", good*dearTurns(bound), good)
	}
	if text.Len() > impl.MaxText {
		t.Fatal("a text of", text.Len())
	}
	if long {
		want += "long\n"
	} else {
		want += answer.String()
	}
	if got := impl.Serve(text.String()); got != want {
		t.Errorf("%d scans at %d: %s, not %s", scans, bound, shortText(got), shortText(want))
	}
}

// A product of just MaxRun, and of one more: that is 5 * 397 * 2113.
func TestServeAtTheMostOfARun(t *testing.T) {
	t.Parallel()
	for scans := 1; scans <= 4096; scans *= 2 {
		checkTimes(t, int64(impl.MaxRun/scans), scans, false)
		checkTimes(t, int64(impl.MaxRun/scans), scans+1, true)
		checkTimes(t, int64(impl.MaxRun/scans)+1, scans, true)
	}
	for _, scans := range []int{1, 5, 397, 1985, 2113} {
		checkTimes(t, int64((impl.MaxRun+1)/scans), scans, true)
		checkTimes(t, int64((impl.MaxRun+1)/scans)-1, scans, false)
		if scans > 1 {
			checkTimes(t, int64((impl.MaxRun+1)/scans), scans-1, false)
		}
	}
	for _, bound := range []int64{impl.MaxRun + 1, 1 << 31, impl.MaxCost - 1, impl.MaxCost} {
		for _, scans := range []int{1, 2, 3, 1000, 6000} {
			checkTimes(t, bound, scans, true)
		}
	}
	// All of them refused: they count nevertheless.
	text := wantedText(dear(impl.MaxRun / 2))
	checkAnswer(t, "two refused", text+"scan\nscan 1\n", "bound 2097152\nrefused\nrefused\n")
	checkAnswer(t, "three refused", text+"scan\nscan 1\nscan 1 2 3\n", "bound 2097152\nlong\n")
	text = wantedText(dear(impl.MaxRun + 1))
	checkAnswer(t, "one refused", text+"scan\n", "bound 4194305\nlong\n")
}

// More scans than Scans takes: as many as a text has room for.
func TestServeOfManyScans(t *testing.T) {
	t.Parallel()
	const text = "region\nregion uint\nregion uint\nconst uint 1\nfunc : none :\nload 2 0\ndup\nstore 1 0\nconst 0\nadd uint\nstore 2 0\nreturn\n"
	for _, scans := range []int{1, 2, 999, 1000, 1001, 1002, 5000, (impl.MaxText - len(text)) / 5} {
		want := strings.Builder{}
		want.WriteString("bound 11\n")
		for n := range scans {
			fmt.Fprintf(&want, "out %d\nkeep %d\n", n, n+1)
		}
		checkAnswer(t, fmt.Sprint(scans, " scans"), text+strings.Repeat("scan\n", scans), want.String())
	}
	for _, scans := range []int{1000, 1001, 6000} {
		checkAnswer(t, "all refused", text+strings.Repeat("scan 1\n", scans), "bound 11\n"+strings.Repeat("refused\n", scans))
	}
}

// Texts of just as many bytes as there may be, and of one more.
func TestServeAtTheMostOfAText(t *testing.T) {
	t.Parallel()
	const text = "region int\nregion int\nregion\nfunc : none :\nload 0 0\nstore 1 0\nreturn\n"
	for length := impl.MaxText - 3; length <= impl.MaxText+3; length++ {
		scans, answer := strings.Repeat("scan 10\n", (impl.MaxText-len(text))/8-4), "bound 6\n"
		answer += strings.Repeat("out 10\nkeep\n", strings.Count(scans, "\n"))
		// The last one is refused: it has as many digits as there is room.
		scans += "scan" + strings.Repeat(" 1", (length-len(text)-len(scans)-5)/2)
		if left := length - len(text) - len(scans) - 1; left > 0 {
			scans += strings.Repeat("2", left)
		}
		whole := text + scans + "\n"
		if len(whole) != length {
			t.Fatal("a text of", len(whole), "not", length)
		}
		if length <= impl.MaxText {
			checkAnswer(t, fmt.Sprint(length, " bytes"), whole, answer+"refused\n")
		} else {
			checkAnswer(t, fmt.Sprint(length, " bytes"), whole, "bad\n")
		}
		checkAnswer(t, "without its end", whole[:length-1], "bad\n")
		// Of a program alone, which has a fault, is refused, or has a bound.
		passes := passesAt(length)
		refused := strings.Replace(passes, "nop\n", "dup\n", 1)
		faulty := strings.Replace(passes, "nop\nnop\nnop\n", "jump 999999\n", 1)
		for program, want := range map[string]string{passes: "bound ", refused: "refused 4 0 0\n", faulty: "fault\n"} {
			if length > impl.MaxText {
				want = "bad\n"
			}
			if got := checkServe(t, fmt.Sprint(length, " bytes of a program"), program); len(program) != length || !strings.HasPrefix(got, want) {
				t.Errorf("%d bytes of a program: %q, not %q", len(program), got, want)
			}
		}
	}
}

// passesAt is a text of just so many bytes, which must be many, whose program passes.
func passesAt(length int) string {
	const funcs = 20
	text := "region\nregion\nregion\nconst int "
	left := length - len(text) - 1 - funcs*len("func : none :\nreturn\n")
	// The constant has as many digits that the rest is made of lines of four bytes.
	digits := "1000"[:1+(left+3)%4]
	text += digits + "\n"
	nops := (left - len(digits)) / 4
	for n := range funcs {
		count := nops / (funcs - n)
		nops -= count
		text += "func : none :\n" + strings.Repeat("nop\n", count) + "return\n"
	}
	return text
}

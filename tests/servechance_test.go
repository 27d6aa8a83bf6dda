package tests

import (
	"fmt"
	"strings"
	"testing"

	"loop.example/s02548/impl"
)

// scansFor are lines of scans by chance, most with as many words as there are inputs.
func (d *dice) scansFor(p impl.Program, most int) string {
	text := ""
	for range d.next(most) {
		words := d.memory(p).In
		if d.next(4) == 0 {
			words = make([]uint32, d.next(8))
		}
		text += scanText(words)
	}
	return text
}

// countAnswers notes which lines an answer has.
func countAnswers(seen map[string]int, answer string) {
	for n, line := range linesOf(answer) {
		word, _, _ := strings.Cut(strings.TrimSuffix(line, "\n"), " ")
		if n == 0 && word == "refused" {
			word = line[:9]
		}
		seen[word]++
	}
}

// moreTurns has all loops go round often that begin with a number of many turns anyway.
func moreTurns(p *impl.Program) {
	most := uint32(0)
	for _, c := range p.Certs {
		most = max(most, c.Init)
	}
	for n := range p.Consts {
		if p.Consts[n] == (impl.Const{Type: impl.TypeUint, Word: most}) {
			p.Consts[n].Word = 1 << 20
		}
	}
	for n := range p.Certs {
		if p.Certs[n].Init == most {
			p.Certs[n].Init = 1 << 20
		}
	}
}

// Programs by chance, some changed somewhere, with scans by chance: Serve tells what Check and the scans tell.
func TestServeOfManyPrograms(t *testing.T) {
	t.Parallel()
	d := dice(233)
	seen, differ := map[string]int{}, 0
	for round := range 1200 {
		p := d.shuffled()
		if round%2 == 0 {
			p = d.certifiedProgram(false)
		}
		if longest(p) > 150 || len(p.Certs) > impl.MaxCerts {
			continue
		}
		if d.next(3) == 0 {
			d.spoilBound(&p)
		}
		if d.next(6) == 0 {
			d.changeNumber(&p)
		}
		if round%8 == 0 {
			moreTurns(&p)
		}
		if !canBeTold(p) {
			continue
		}
		scans := d.scansFor(p, 10)
		// The model is too slow for scans that are dear, unless they are too dear to be run.
		if r := impl.Check(p); r.Bound > 20000 && r.Bound*int64(strings.Count(scans, "\n")) <= impl.MaxRun {
			continue
		}
		answer := checkServe(t, fmt.Sprint("round ", round), wantedText(p)+scans)
		countAnswers(seen, answer)
		if strings.Contains(answer, "out") && strings.Count(answer, "\n"+linesOf(answer)[1]) < strings.Count(answer, "\nout") {
			differ++
		}
	}
	for _, word := range []string{"bound", "out", "keep", "refused", "refused 4", "refused 5"} {
		if seen[word] < 30 {
			t.Error("seldom", word, seen)
		}
	}
	if seen["fault"] < 10 || seen["long"] < 3 || differ < 100 {
		t.Error("seldom:", seen, "programs whose outputs change:", differ)
	}
}

// Statements compiled: their programs have text, and are served.
func TestServeOfTheFamily(t *testing.T) {
	t.Parallel()
	d := dice(239)
	served := 0
	for round := range 300 {
		list, helpers := d.drawn(2+d.next(20), []int64{0, 1, 2, 5}, d.next(4))
		p := impl.Compile(list, helpers)
		r := impl.Check(p)
		if r.Code != 0 || r.Bound > 10000 {
			continue
		}
		text := wantedText(p)
		checkFormat(t, fmt.Sprint("round ", round), p)
		if answer := checkServe(t, fmt.Sprint("round ", round), text+"scan\nscan 0\nscan\n"); !strings.Contains(answer, "\nrefused\n") {
			t.Fatal(answer)
		}
		served++
	}
	if served < 100 {
		t.Error("served", served)
	}
}

// Texts with scans, spoilt at one place or several.
func TestServeOfManySpoiltTexts(t *testing.T) {
	t.Parallel()
	d := dice(241)
	seen := map[string]int{}
	short := "region uint\nregion uint\nregion uint\nconst uint 3\nfunc : none : uint\nload 0 0\nconst 0\nadd uint\ndup\nstore 1 0\nload 2 0\nadd uint\nstore 2 0\nreturn\nscan 1\nscan 2\nscan\nscan 4294967295\nscan 7\n"
	looped := "region bool\nregion uint\nregion uint\nconst uint 3\nconst uint 1\nfunc : none : uint\nconst 0\nstorelocal 0\nguard 0 8\nload 2 0\nconst 1\nadd uint\nstore 2 0\njump 2\nload 0 0\nconv bool uint\nstore 1 0\nreturn\nloop 0 2 0 3\nscan 1\nscan 0\nscan 5\n"
	summed := wantedText(summing()) + scanText([]uint32{1, 5}, []uint32{0, 7}, nil, []uint32{9, 1})
	for round := range 12000 {
		text := []string{short, looped, summed}[d.next(3)]
		for range 1 + d.next(1+d.next(3)) {
			text = d.spoilText(text)
		}
		countAnswers(seen, checkServe(t, fmt.Sprint("round ", round), text))
	}
	for _, word := range []string{"bad", "fault", "bound", "out", "keep", "refused", "refused 4"} {
		if seen[word] < 200 {
			t.Error("seldom", word, seen)
		}
	}
	if seen["refused 3"] < 20 || seen["refused 5"] < 10 {
		t.Error("seldom:", seen)
	}
}

// Scans are read for the program that stands ahead of them: the same lines behind other programs.
func TestServeOfTheSameScans(t *testing.T) {
	scans := scanText(nil, []uint32{1}, []uint32{2, 3}, []uint32{4, 5, 6}, []uint32{7}, []uint32{8, 9}, nil)
	for inputs, want := range []string{
		"bound 6\nout 0\nkeep\nrefused\nrefused\nrefused\nrefused\nrefused\nout 0\nkeep\n",
		"bound 6\nrefused\nout 1\nkeep\nrefused\nrefused\nout 7\nkeep\nrefused\nrefused\n",
		"bound 6\nrefused\nrefused\nout 2\nkeep\nrefused\nrefused\nout 8\nkeep\nrefused\n",
		"bound 6\nrefused\nrefused\nrefused\nout 4\nkeep\nrefused\nrefused\nrefused\n",
	} {
		load := "load 0 0\n"
		if inputs == 0 {
			load = "load 1 0\n"
		}
		text := "region" + strings.Repeat(" int", inputs) + "\nregion int\nregion\nfunc : none :\n" + load + "store 1 0\nreturn\n"
		checkAnswer(t, fmt.Sprint(inputs, " inputs"), text+scans, want)
	}
}

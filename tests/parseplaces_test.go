package tests

import (
	"fmt"
	"slices"
	"strings"
	"testing"

	"loop.example/s02548/impl"
)

// Lines that are missing, too many or at another place; by hand, each line by a letter.
func TestParseOfTheOrderOfLines(t *testing.T) {
	lines := map[rune]string{'r': "region\n", 'c': "const uint 1\n", 'f': "func : none : uint\n", 'n': "nop\n", 'k': "const 0\n", 'e': "return\n", 'l': "loop 0 0 0 1\n", 'L': "loop 0 1 0 1\n", 's': "scan\n"}
	for order, want := range map[string]int64{
		"rrrfe": 0, "rrrfn": 0, "rrrcfe": 0, "rrrccfke": 0, "rrrfefe": 0, "rrrfenefene": 0, "rrrfel": 0, "rrrfnelL": 0, "rrrcfkefnel": 0,
		"rrrf": 2, "rrrcf": 2, "rrrff": 2, "rrrfef": 2, "rrrffe": 2, "rrrfl": 2, "rrrflL": 2, "rrrfefl": 2, "rrrfk": 2, "rrrfneLl": 2, "rrrfell": 2,
		"": 1, "r": 1, "rr": 1, "rrr": 1, "rrrc": 1, "rrrcc": 1, "fe": 1, "rfe": 1, "rrfe": 1, "rrrrfe": 1, "rrrrrrfe": 1, "rrcrfe": 1, "rcrrfe": 1, "crrrfe": 1, "rrfer": 1, "rrfre": 1, "rrrfre": 1, "rrrfer": 1, "rrrcrfe": 1, "frrre": 1, "rfrre": 1,
		"rrre": 1, "rrrn": 1, "rrrk": 1, "rrrce": 1, "rrrnfe": 1, "rrrefe": 1, "rrrkfe": 1, "rrrcefe": 1, "errrfe": 1, "rrerfe": 1, "e": 1, "n": 1,
		"rrrfce": 1, "rrrfec": 1, "rrrfecfe": 1, "rrrfefce": 1, "rrrfelc": 1, "rrrfcke": 1,
		"rrrl": 1, "rrrlfe": 1, "rrrclfe": 1, "lrrrfe": 1, "rlrrfe": 1, "rrrfle": 1, "rrrfelfe": 1, "rrrfele": 1, "rrrfelf": 1, "rrrfelr": 1, "rrrfenlLn": 1, "rrrfenlnL": 1,
		"rrrfes": 1, "rrrfs": 1, "rrrfels": 1, "srrrfe": 1, "rrrsfe": 1, "rrrcsfe": 1, "rrrfse": 1, "rrrfesl": 1, "rrrfesss": 1, "s": 1,
	} {
		text := ""
		for _, letter := range order {
			text += lines[letter]
		}
		checkTextCode(t, order, text, want)
	}
}

// All orders of a few lines, with at most three of a kind.
func TestParseOfAllOrders(t *testing.T) {
	lines := []string{"region\n", "const uint 1\n", "func : none : uint\n", "return\n", "loop 0 0 0 1\n", "scan\n", "const 0\n"}
	codes := map[int64]int{}
	for count := range 7 {
		total := 1
		for range count {
			total *= len(lines)
		}
		for number := range total {
			text := "region\nregion\n"
			for left, n := number, 0; n < count; left, n = left/len(lines), n+1 {
				text += lines[left%len(lines)]
			}
			// The model is slow: most texts are wrong from their first line on.
			if got := impl.ParseProgram(text); strings.HasPrefix(text, "region\nregion\nregion\n") || got.Code != 1 || number%97 == 0 {
				codes[checkParse(t, "in all orders", text)]++
			}
		}
	}
	if codes[0] < 20 || codes[1] < 1000 || codes[2] < 50 {
		t.Error("codes", codes)
	}
}

// A line left out, twice, or changed with another: of the whole text.
func TestParseOfLinesMoved(t *testing.T) {
	lines := linesOf(wholeText())
	codes := map[int64]int{}
	for n := range lines {
		codes[checkParse(t, "left out", strings.Join(slices.Delete(slices.Clone(lines), n, n+1), ""))]++
		for k := range lines {
			codes[checkParse(t, "moved", strings.Join(slices.Insert(slices.Delete(slices.Clone(lines), n, n+1), k%(len(lines)-1), lines[n]), ""))]++
			codes[checkParse(t, "put in", strings.Join(slices.Insert(slices.Clone(lines), k, lines[n]), ""))]++
			codes[checkParse(t, "in place of another", strings.Join(slices.Replace(slices.Clone(lines), k, k+1, lines[n]), ""))]++
		}
		for k := range n {
			cut := strings.Join(lines[:k], "") + strings.Join(lines[n:], "")
			codes[checkParse(t, "cut out", cut)]++
		}
		codes[checkParse(t, "the first ones", strings.Join(lines[:n], ""))]++
	}
	if codes[0] < 500 || codes[1] < 1000 || codes[2] < 500 {
		t.Error("codes", codes)
	}
}

// A word left out, twice, or changed with another of its line.
func TestParseOfWordsMoved(t *testing.T) {
	lines := linesOf(wholeText())
	codes := map[int64]int{}
	check := func(n int, words []string) {
		t.Helper()
		around := slices.Clone(lines)
		around[n] = strings.Join(words, " ") + "\n"
		codes[checkParse(t, fmt.Sprint("line ", n), strings.Join(around, ""))]++
	}
	for n, line := range lines {
		words := strings.Split(strings.TrimSuffix(line, "\n"), " ")
		for k := range words {
			check(n, slices.Delete(slices.Clone(words), k, k+1))
			check(n, slices.Insert(slices.Clone(words), k, words[k]))
			check(n, words[:k])
			for l := range words {
				other := slices.Clone(words)
				other[k], other[l] = other[l], other[k]
				check(n, other)
			}
			for _, word := range []string{"", "0", "1", "uint", "bool", ":", "none", "func", "x"} {
				check(n, slices.Insert(slices.Clone(words), k, word))
			}
		}
		for _, word := range []string{"", "0", "uint", ":", "none"} {
			check(n, append(slices.Clone(words), word))
		}
	}
	if codes[0] < 100 || codes[1] < 800 || codes[2] < 50 {
		t.Error("codes", codes)
	}
}

// Signs put in, taken away and changed at each place: no blank too many, no other blank, no other end of a line, and no byte that is no text.
func TestParseOfSigns(t *testing.T) {
	t.Parallel()
	text := wholeText()
	signs := []string{" ", "  ", "\t", "\r", "\v", "\f", "\x00", "\x7f", "\u0085", "\u00a0", "\u2028", "\ufeff", "\u200b", "\xff", "\xc3", "\xe2\x82", "\xed\xa0\x80", "\xc0\x8a", "\xc0\xa0", "é", "#", "-", "\"", "."}
	for at := range len(text) + 1 {
		for _, sign := range signs {
			checkTextCode(t, "put in", text[:at]+sign+text[at:], 1)
			if at < len(text) {
				other := text[:at] + sign + text[at+1:]
				if other != text {
					checkTextCode(t, "in place of another", other, 1)
				}
			}
		}
		if at < len(text) && (text[at] == ' ' || text[at] == '\n') {
			checkTextCode(t, "without a blank or an end", text[:at]+text[at+1:], 1)
			checkTextCode(t, "twice a blank or an end", text[:at]+text[at:at+1]+text[at:], 1)
		}
		checkParse(t, "cut off", text[:at])
		checkParse(t, "without the first bytes", text[at:])
	}
}

func TestParseOfEnds(t *testing.T) {
	for _, text := range []string{wholeText(), leastText} {
		bare := strings.TrimSuffix(text, "\n")
		for what, other := range map[string]string{
			"no end": bare, "an empty line at the end": text + "\n", "empty lines at the end": text + "\n\n\n", "an empty line first": "\n" + text, "a blank at the end": text + " ", "a blank first": " " + text, "a line of a blank": text + " \n",
			"both": strings.ReplaceAll(text, "\n", "\r\n"), "carriage returns": strings.ReplaceAll(text, "\n", "\r"), "turned round": strings.ReplaceAll(text, "\n", "\n\r"), "doubled": strings.ReplaceAll(text, "\n", "\n\n"), "at the last line": bare + "\r\n",
			"blanks for ends": strings.ReplaceAll(text, "\n", " "), "tabs": strings.ReplaceAll(text, " ", "\t"), "blanks ahead of ends": strings.ReplaceAll(text, "\n", " \n"), "blanks behind ends": strings.ReplaceAll(text, "\n", "\n "), "two blanks": strings.ReplaceAll(text, " ", "  "),
			"a sign of nothing at the end": text + "\x00", "a mark of order": "\ufeff" + text, "another mark of order": "\xff\xfe" + text, "twice": text + text, "great letters": strings.ToUpper(text), "a comment": "# it\n" + text, "in quotes": "\"" + text + "\"",
		} {
			checkTextCode(t, what, other, 1)
		}
		checkTextCode(t, "as it is", text, 0)
	}
}

// Texts that are nothing.
func TestParseOfNoText(t *testing.T) {
	for _, text := range []string{"", " ", "\n", "\n\n", " \n", "\x00", "\xff\xfe\xfd", "PLC1", string(bytesOf(leastProgram())), "bad\n", "region", "region\n", "func : none :\nreturn\n", "region\nregion\nregion\n", "\u202e\n", "{}", strings.Repeat("\n", impl.MaxText), strings.Repeat(" ", impl.MaxText), strings.Repeat("9", impl.MaxText), strings.Repeat("\xff", impl.MaxText), strings.Repeat("region\n", impl.MaxText/7), strings.Repeat("é\n", impl.MaxText/3), strings.Repeat("region ", impl.MaxText/7), strings.Repeat("return\n", impl.MaxText/7), strings.Repeat("\n", 2*impl.MaxText), strings.Repeat("region\nregion\nregion\n", 100000)} {
		checkTextCode(t, "nothing", text, 1)
	}
}

// lengthOf is a text of a program without a fault that has just so many bytes, which must be many.
func lengthOf(length int) string {
	var text strings.Builder
	text.WriteString("region\nregion\nregion\nfunc : none :\n")
	for n := 0; length-text.Len() > 30; n++ {
		text.WriteString("nop\n")
		if n%1000 == 999 {
			text.WriteString("func : none :\n")
		}
	}
	// What is left is at least 12 bytes, and made of lines of 4 and of 5.
	for left := length - text.Len(); left > 0; left = length - text.Len() {
		if left%4 == 0 {
			text.WriteString("nop\n")
		} else {
			text.WriteString("drop\n")
		}
	}
	return text.String()
}

func TestParseAtTheMostOfAText(t *testing.T) {
	t.Parallel()
	for length := impl.MaxText - 3; length <= impl.MaxText+3; length++ {
		text, what := lengthOf(length), fmt.Sprint(length, " bytes")
		if len(text) != length {
			t.Fatal("a text of", len(text), "not", length)
		}
		good, faulty := int64(0), int64(2)
		if length > impl.MaxText {
			good, faulty = 1, 1
		}
		checkTextCode(t, what, text, good)
		if good == 0 {
			checkFormat(t, what, impl.ParseProgram(text).Program)
		}
		// With a fault, with a line that is none, and without its end.
		checkTextCode(t, what+", a fault", strings.Replace(text, "nop\nnop\nnop\n", "jump 999999\n", 1), faulty)
		checkTextCode(t, what+", no such form", strings.Replace(text, "nop\nnop\nnop\n", "jump 99999 \n", 1), 1)
		checkTextCode(t, what+", no end", text[:length-1], 1)
		checkTextCode(t, what+", another end", text[:length-1]+" ", 1)
	}
	for _, length := range []int{2*impl.MaxText - 1, 2 * impl.MaxText} {
		checkTextCode(t, fmt.Sprint(length, " bytes"), lengthOf(length), 1)
	}
	checkTextCode(t, "the full one", wantedText(fullProgram()), 1)
}

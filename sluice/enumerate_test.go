package sluice

import (
	"strconv"
	"testing"

	"sluice/api"
)

// begins is all with which one of some whole texts begins.
type begins struct{ whole, begun map[string]bool }

func newBegins(texts []string) begins {
	b := begins{map[string]bool{}, map[string]bool{}}
	for _, text := range texts {
		b.whole[text] = true
		for i := range len(text) + 1 {
			b.begun[text[:i]] = true
		}
	}
	return b
}

// wrong is the place of the first byte up to which no whole text begins so, the
// number of bytes if a text ends ahead of its time, -1 if it is whole.
func (b begins) wrong(text string) int {
	for i := range len(text) {
		if !b.begun[text[:i+1]] {
			return i
		}
	}
	if b.whole[text] {
		return -1
	}
	return len(text)
}

// join is each text of the first list with each of the second behind it, and so on.
func join(lists ...[]string) []string {
	out := []string{""}
	for _, list := range lists {
		var longer []string
		for _, head := range out {
			for _, tail := range list {
				longer = append(longer, head+tail)
			}
		}
		out = longer
	}
	return out
}

func just(text string) []string { return []string{text} }

// grammar has, by their number of bytes, all texts of each part of a
// description in which a is the only letter.
type grammar struct{ types, fields, cases, lines map[int][]string }

func (g grammar) grow(n int) {
	if n <= api.MaxName {
		g.types[n] = just(times("a", n))
	}
	g.types[n] = append(g.types[n], join(just("?"), g.types[n-1])...)
	g.types[n] = append(g.types[n], join(just("["), g.types[n-2], just("]"))...)
	g.types[n] = append(g.types[n], join(just("{"), g.fields[n-2], just("}"))...)
	g.types[n] = append(g.types[n], join(just("<"), g.cases[n-2], just(">"))...)
	g.fields[n] = g.rows(n, ":", ",", g.fields)
	g.cases[n] = g.rows(n, ":", "|", g.cases)
	g.lines[n] = g.rows(n, "=", "\n", g.lines)
}

// rows is all rows of n bytes of names with types, whose shorter ones are known.
func (g grammar) rows(n int, sign, between string, shorter map[int][]string) []string {
	out := g.named(n, sign)
	for first := 3; first < n; first++ {
		out = append(out, join(g.named(first, sign), just(between), shorter[n-first-1])...)
	}
	return out
}

func (g grammar) named(n int, sign string) []string {
	var out []string
	for letters := 1; letters <= api.MaxName; letters++ {
		out = append(out, join(just(times("a", letters)+sign), g.types[n-letters-1])...)
	}
	return out
}

// Every text of up to seven bytes that can begin a description, and each of some
// bytes behind it.
func TestP3FormOfAllShortTexts(t *testing.T) {
	g := grammar{map[int][]string{}, map[int][]string{}, map[int][]string{}, map[int][]string{}}
	var all []string
	for n := 1; n <= 17; n++ { // eight bytes such as a=[[[[[{ take nine more to the end
		g.grow(n)
		all = append(all, g.lines[n]...)
	}
	known, looked := newBegins(all), 0
	for begun := range known.begun {
		if len(begun) > 7 {
			continue
		}
		for _, next := range "a=?[]{}<>:,|\n A1-\x00\x7f" {
			looked++
			text := begun + string(next)
			e, at := Check(text)
			if want := known.wrong(text); want < 0 && e == api.ErrForm || want >= 0 && (e != api.ErrForm || at != want) {
				t.Fatalf("Check(%q) = %d, %d, want the form wrong at %d", text, e, at, want)
			}
		}
	}
	if looked < 5000 {
		t.Errorf("only %d texts were looked at", looked)
	}
}

// kind is a type with so many of its values, as texts and in the same order as
// bytes, that what is made of the first ones by one of the signs is the
// beginning of one of them, if of any.
type kind struct {
	of                   string
	texts, data          []string
	textSigns, dataSigns string
	textFirst, dataFirst int
}

func byteValues() (texts, data []string) {
	for b := range 256 {
		texts = append(texts, strconv.Itoa(b))
		data = append(data, string([]byte{byte(b)}))
	}
	return texts, data
}

// counted is all rows of at most four of some values, as texts and as bytes.
func counted(begin, between, end string, texts, data []string) (outTexts, outData []string) {
	outTexts, outData = just(begin+end), just("\x00")
	rows, bytes := texts, data
	for size := 1; size <= 4; size++ {
		outTexts = append(outTexts, join(just(begin), rows, just(end))...)
		outData = append(outData, join(just(string([]byte{byte(size)})), bytes)...)
		rows, bytes = join(rows, just(between), texts), join(bytes, data)
	}
	return outTexts, outData
}

func kinds() []kind {
	bools, boolData := []string{"no", "yes"}, []string{"\x00", "\x01"}
	options, optionData := append(join(just("+"), bools), "-"), append(join(just("\x01"), boolData), "\x00")
	numbers, numberData := byteValues()
	cases := append(append(join(just("a:"), bools), join(just("ab:"), options)...), join(just("c:"), numbers)...)
	caseData := append(append(join(just("\x00"), boolData), join(just("\x01"), optionData)...), join(just("\x02"), numberData)...)
	lists, listData := counted("[", ",", "]", bools, boolData)
	quotes, quoteData := counted("\"", "", "\"", []string{"a", "\\\"", "\\\\", " "}, []string{"a", "\"", "\\", " "})
	digits, digitData := counted("x", "", "", []string{"00", "0f", "f0", "ff"}, []string{"\x00", "\x0f", "\xf0", "\xff"})
	return []kind{
		{"bool", bools, boolData, "noyesNY01 ", "\x00\x01\x02\x7f\x80\xff", 2, 2},
		{"byte", numbers, numberData, "0123456789-+ x", "\x00\x01\x7f\x80\xff", 256, 256},
		{"?bool", options, optionData, "+-noyes ", "\x00\x01\x02\x80\xff", 3, 3},
		{"{a:bool,b:?bool}", join(just("{"), bools, just(","), options, just("}")), join(boolData, optionData), "{},+-noyes[:", "\x00\x01\x02\xff", 6, 6},
		{"<a:bool|ab:?bool|c:byte>", cases, caseData, "abc:+-noyes0129", "\x00\x01\x02\x03\xff", len(cases), len(cases)},
		{"[bool]", lists, listData, "[],noyes ", "\x00\x01\x02", 7, 7},
		{"text", quotes, quoteData, "\"\\a \n\x7f", "", 21, 0},
		{"bytes", digits, digitData, "x0fgF,", "", 21, 0},
	}
}

// changes is a text, all that it begins with, and it with one sign more, one
// less or another one, at each place.
func changes(text, signs string) []string {
	var out []string
	for i := range len(text) + 1 {
		out = append(out, text[:i])
		for k := range len(signs) {
			out = append(out, text[:i]+signs[k:k+1]+text[i:])
		}
	}
	for i := range len(text) {
		out = append(out, text[:i]+text[i+1:])
		for k := range len(signs) {
			out = append(out, text[:i]+signs[k:k+1]+text[i+1:])
		}
	}
	return out
}

type converter func(desc string, from string) (string, api.Errno, int)

func wantAsKnown(t *testing.T, do converter, of string, from, to []string, first int, signs string, errno api.Errno) {
	t.Helper()
	known, made := newBegins(from), map[string]string{}
	for i := range from {
		made[from[i]] = to[i]
	}
	for _, whole := range from[:first] {
		for _, text := range changes(whole, signs) {
			s, e, at := do("m="+of, text)
			if want := known.wrong(text); want < 0 && (s != made[text] || e != api.OK || at != 0) || want >= 0 && (s != "" || e != errno || at != want) {
				t.Fatalf("%q, %q: %q, %d, %d, want %q or the place %d", of, text, s, e, at, made[text], want)
			}
		}
	}
}

func TestP4AllShortValues(t *testing.T) {
	for _, k := range kinds() {
		wantAsKnown(t, Encode, k.of, k.texts, k.data, k.textFirst, k.textSigns, api.ErrValue)
	}
}

func TestP5AllShortMessages(t *testing.T) {
	for _, k := range kinds() {
		wantAsKnown(t, Decode, k.of, k.data, k.texts, k.dataFirst, k.dataSigns, api.ErrData)
	}
}

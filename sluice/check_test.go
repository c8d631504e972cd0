package sluice

import (
	"strings"
	"testing"

	"sluice/api"
)

// marked takes the ^ out of a text and tells where it stood (0 if there is none).
func marked(text string) (string, int) {
	before, after, found := strings.Cut(text, "^")
	if !found {
		return text, 0
	}
	return before + after, len(before)
}

func times(text string, n int) string { return strings.Repeat(text, n) }

var typeWords = []string{"byte", "short", "word", "int", "bool", "text", "bytes"}

func wantCheck(t *testing.T, errno api.Errno, descriptions ...string) {
	t.Helper()
	for _, with := range descriptions {
		desc, at := marked(with)
		if e, to := Check(desc); e != errno || to != at {
			t.Errorf("Check(%q) = %d, %d, want %d, %d", desc, e, to, errno, at)
		}
	}
}

// lines is a description of n lines a=byte, b=byte, ..
func lines(n int) string {
	var all []string
	for i := range n {
		all = append(all, string(rune('a'+i))+"=byte")
	}
	return strings.Join(all, "\n")
}

// parts is n fields or cases a:byte, b:byte, ..
func parts(n int, between string) string {
	return strings.ReplaceAll(strings.ReplaceAll(lines(n), "=", ":"), "\n", between)
}

func TestP3Examples(t *testing.T) {
	wantCheck(t, api.OK, "m={id:short,tag:text,on:?bool}", "p={x:int,y:int}\nm=<at:p|far:[byte]>")
	wantCheck(t, api.ErrName, "a=^b", "a={x:byte,^x:byte}", "a=byte\n^a=int")
	wantCheck(t, api.ErrForm, "a=[byte^", "byte^=int")
}

func TestP3TakesDescriptions(t *testing.T) {
	for _, word := range typeWords {
		wantCheck(t, api.OK, "a="+word, "a=["+word+"]", "a=?"+word, "a={a:"+word+"}", "a=<a:"+word+">")
	}
	wantCheck(t, api.OK,
		"a=byte", "abcdef=byte", "z=byte", "abcdef=byte\nb=abcdef", "a={abcdef:byte}", "a=<abcdef:byte>",
		"a={"+parts(6, ",")+"}", "a=<"+parts(6, "|")+">", lines(1), lines(10),
		"by=byte\nbytesx=by\nbytex=bytesx", "inta={in:int,wor:word}", // more or fewer letters than a word has
		"a=byte\nb={a:a,b:a}", "a={a:{a:byte},b:<a:byte|b:byte>}", // names may come again elsewhere
	)
}

func TestP3Long(t *testing.T) {
	full := ""
	for _, name := range strings.Split("abcdefgh", "") {
		full += name + "={" + parts(6, ",") + "}\n"
	}
	full += "i={a:" + times("?", 10) + "byte,b:" + times("?", 5) + "byte}"
	if len(full) != 400 {
		t.Fatalf("the description has %d bytes", len(full))
	}
	wantCheck(t, api.OK, full)
	wantCheck(t, api.ErrLong, strings.Replace(full, "?", "??", 1), full+"}", full+"\n", times("?", 401), times("x", 100000), times("\x00", 401))
}

func TestP3FormOfLines(t *testing.T) {
	wantCheck(t, api.ErrForm,
		"^", "^\n", "^=byte", "^ ", "a^", "a^\n", "a=^", "a=^\n", "a=byte\n^", "a=byte\n^\n", "a=byte^ ", "a=byte^=", "a=byte^\r\nb=byte",
		"a^ =byte", "a=^ byte", "^A=byte", "a^A=byte", "a^1=byte", "a^_=byte", "^\xff=byte", "a^\x00", "^é=byte", "a^:byte", "a=^=", "a=^1", "a=^B",
		lines(10)+"^\nk=byte", lines(10)+"^\n", lines(9)+"\n^", lines(9)+"\nz^",
	)
	for b := range 256 {
		sign := string([]byte{byte(b)})
		if sign < "a" || sign > "z" {
			wantAt(t, sign+"=byte", 0)
		}
		if sign != "\n" {
			wantAt(t, "a=[byte]"+sign, 8)
		}
	}
}

// wantAt is for signs that may themselves be a ^.
func wantAt(t *testing.T, desc string, at int) {
	t.Helper()
	if e, to := Check(desc); e != api.ErrForm || to != at {
		t.Errorf("Check(%q) = %d, %d, want %d, %d", desc, e, to, api.ErrForm, at)
	}
}

func TestP3FormOfTypes(t *testing.T) {
	wantCheck(t, api.ErrForm,
		"a=[^", "a=[byte^", "a=[^]", "a=[byte^}", "a=[byte^,byte]", "a=[byte]^]", "a=^]", "a=[byte^\n", "a=byte^[", "a=byte^?",
		"a=?^", "a=??^", "a=?^]", "a=?^\n", "a=[?^]",
		"a={^", "a={^}", "a={a^", "a={a^}", "a={a^=byte}", "a={a:^", "a={a:^}", "a={a:byte^", "a={a:byte^>", "a={a:byte^|b:byte}", "a={a:byte,^", "a={a:byte,^}", "a={a:byte,^,", "a={^?byte}", "a={^[", "a={a:byte}^}",
		"a=<^", "a=<^>", "a=<a^", "a=<a^|", "a=<a:^", "a=<a:^>", "a=<a:byte^", "a=<a:byte^}", "a=<a:byte^,b:byte>", "a=<a:byte|^", "a=<a:byte|^>", "a=<a:byte|^|",
		"a={"+parts(6, ",")+"^,g:byte}", "a={"+parts(6, ",")+"^", "a=<"+parts(6, "|")+"^|g:byte>", "a=<"+parts(6, "|")+"^|",
		"a={a:{"+parts(6, ",")+"^,g:byte}}", "a={a:<"+parts(2, "|")+"^,c:byte}",
	)
}

func TestP3FormOfNames(t *testing.T) {
	wantCheck(t, api.ErrForm,
		"abcdef^g=byte", "abcdef^g", "abcdef^", "a=abcdef^g", "a=[abcdef^g]", "a={abcdef^g:byte}", "a=<abcdef^g:byte>", "a=byte\nabcdef^g=byte", "a=bytesx^y",
	)
	for _, word := range typeWords {
		wantCheck(t, api.ErrForm,
			word+"^=byte", word+"^", word+"^ ", word+"^:", word+"^\n", "a=byte\n"+word+"^=byte",
			"a={"+word+"^:byte}", "a={"+word+"^", "a={b:byte,"+word+"^:byte}", "a=<"+word+"^:byte>", "a=<b:byte|"+word+"^:byte>",
		)
	}
}

// A text of 400 bytes that is begun right ends ahead of its time, though no
// more than 400 bytes may be: that limit has an error of its own.
func TestP3FormOfFullTexts(t *testing.T) {
	for _, open := range []string{"[", "?"} {
		wantCheck(t, api.ErrForm, "a="+times(open, 398)+"^")
	}
	wantCheck(t, api.ErrForm, "a="+times("{a:", 132)+"ab^", "a="+times("<a:", 132)+"ab^")
}

func TestP3Names(t *testing.T) {
	wantCheck(t, api.ErrName,
		"a=^a", "a=^b", "a=^b\nb=byte", "a=byte\nb=^c\nc=byte", "a=[^z]", "a=?^z", "a={a:^z}", "a=<a:byte|b:^z>", "a=^byt", "a=^bytesx", "a=^abcdef",
		"a=byte\n^a=byte", "a=byte\nb=byte\n^b=byte", "a=byte\nb=a\n^a=b", "abcdef=byte\n^abcdef=byte",
		"a={a:byte,^a:byte}", "a=<a:byte|^a:byte>", "a={a:byte,b:byte,^b:byte,b:byte}", "a={x:{a:byte,b:byte,^a:byte}}", "a=[<a:byte|b:byte|^a:int>]", "a={abcdef:byte,^abcdef:byte}",
		"a={x:byte}\nb={x:^x}", // a field defines nothing
	)
}

func TestP3FirstNameCounts(t *testing.T) {
	wantCheck(t, api.ErrName,
		"a={x:^z,x:y}", "a={x:byte,^x:z}", "a={x:{y:byte,^y:byte},x:byte}", "a=^z\na=y", "a=byte\n^a=z", "a=byte\nb=^c\na=byte",
	)
}

func TestP3Depth(t *testing.T) {
	wantCheck(t, api.OK,
		"a="+times("?", 11)+"byte", "a="+times("[", 11)+"text"+times("]", 11), "a="+times("{a:", 11)+"int"+times("}", 11), "a="+times("<a:", 11)+"int"+times(">", 11),
		"a=?????byte\nb=??????a", "a=?byte\nb=?a\nc=?b\nd=?c\ne=?d\nf=?e\ng=?f\nh=?g\ni=?h\nj=??i", "a={a:"+times("?", 10)+"byte,b:"+times("?", 10)+"byte}",
	)
	wantCheck(t, api.ErrDeep,
		"^a="+times("?", 12)+"byte", "^a="+times("[", 12)+"text"+times("]", 12), "^a="+times("{a:", 12)+"int"+times("}", 12), "^a="+times("<a:", 12)+"int"+times(">", 12),
		"a=?????byte\n^b=???????a", "a=?????byte\n^b=???????a\nc=byte", "a=?????byte\n^b=???????a\nc="+times("?", 12)+"a", "a=?byte\nb=?a\nc=?b\nd=?c\ne=?d\nf=?e\ng=?f\nh=?g\ni=?h\n^j=???i",
		"^a={a:byte,b:"+times("?", 11)+"byte}", "^a={a:"+times("?", 11)+"byte,b:byte}", "^a=<a:byte|b:"+times("?", 11)+"byte|c:byte>", "^a="+times("?", 394)+"byte",
	)
}

func TestP3Order(t *testing.T) {
	deep := times("?", 12)
	wantCheck(t, api.ErrForm, "a=z\nb=^", "a="+deep+"byte\nb^", "a="+deep+"z\na=byte\n^", "a={a:z,a:z^")
	wantCheck(t, api.ErrName, "a="+deep+"^z", "a="+deep+"byte\nb=^z", "a="+deep+"byte\n^a=byte", "a="+deep+"byte\nb={x:byte,^x:byte}")
	wantCheck(t, api.ErrLong, "a="+deep+"z\n"+times("?", 400))
}

package sluice

import (
	"testing"

	"sluice/api"
)

// pair is a value of a type, as text and as bytes.
type pair struct{ of, value, data string }

// pairs has each type of the document's table, at its bounds too.
func pairs() []pair {
	all := []pair{
		{"byte", "0", "\x00"}, {"byte", "9", "\x09"}, {"byte", "10", "\x0a"}, {"byte", "254", "\xfe"}, {"byte", "255", "\xff"},
		{"short", "0", "\x00\x00"}, {"short", "255", "\xff\x00"}, {"short", "256", "\x00\x01"}, {"short", "258", "\x02\x01"}, {"short", "65535", "\xff\xff"},
		{"word", "0", "\x00\x00\x00\x00"}, {"word", "65536", "\x00\x00\x01\x00"}, {"word", "67305985", "\x01\x02\x03\x04"}, {"word", "2147483648", "\x00\x00\x00\x80"}, {"word", "4294967295", "\xff\xff\xff\xff"},
		{"int", "0", times("\x00", 8)}, {"int", "72623859790382856", "\x01\x02\x03\x04\x05\x06\x07\x08"}, {"int", "-1", times("\xff", 8)}, {"int", "-256", times("\xff", 7) + "\x00"},
		{"int", "9223372036854775807", "\x7f" + times("\xff", 7)}, {"int", "-9223372036854775808", "\x80" + times("\x00", 7)}, {"int", "-9223372036854775807", "\x80" + times("\x00", 6) + "\x01"},
		{"bool", "no", "\x00"}, {"bool", "yes", "\x01"},
		{"text", `""`, "\x00"}, {"text", `" "`, "\x01 "}, {"text", `"~"`, "\x01~"}, {"text", `"\""`, "\x01\""}, {"text", `"\\"`, "\x01\\"}, {"text", `"a\\\"b"`, "\x04a\\\"b"}, {"text", `"[{<?x-,:|>}]"`, "\x0c[{<?x-,:|>}]"},
		{"bytes", "x", "\x00"}, {"bytes", "x00", "\x01\x00"}, {"bytes", "x0123456789abcdef", "\x08\x01\x23\x45\x67\x89\xab\xcd\xef"}, {"bytes", "xff", "\x01\xff"},
		{"[short]", "[]", "\x00"}, {"[short]", "[1]", "\x01\x01\x00"}, {"[short]", "[1,513]", "\x02\x01\x00\x01\x02"}, {"[[byte]]", "[[],[1],[2,3]]", "\x03\x00\x01\x01\x02\x02\x03"}, {"[bytes]", "[x,x00,xff]", "\x03\x00\x01\x00\x01\xff"}, {"[?byte]", "[-,+1]", "\x02\x00\x01\x01"},
		{"?byte", "-", "\x00"}, {"?byte", "+0", "\x01\x00"}, {"???byte", "++-", "\x01\x01\x00"}, {"???byte", "+++1", "\x01\x01\x01\x01"}, {"?int", "+-1", "\x01" + times("\xff", 8)}, {"?[byte]", "+[]", "\x01\x00"},
		{"{a:byte}", "{7}", "\x07"}, {"{a:byte,b:byte,c:byte,d:byte,e:byte,f:byte}", "{1,2,3,4,5,6}", "\x01\x02\x03\x04\x05\x06"}, {"{a:{b:byte},c:text}", `{{1},"}"}`, "\x01\x01}"},
		{"<a:byte>", "a:7", "\x00\x07"}, {"<a:byte|b:byte|c:byte|d:byte|e:byte|f:byte>", "f:1", "\x05\x01"}, {"<abc:byte|ab:text|a:bool>", "a:no", "\x02\x00"}, {"<abc:byte|ab:text|a:bool>", `ab:"a:"`, "\x01\x02a:"}, {"<abc:byte|ab:text|a:bool>", "abc:1", "\x00\x01"}, {"<a:<a:byte|b:byte>|b:byte>", "a:b:1", "\x00\x01\x01"},
	}
	for n, count := range map[int]string{1: "\x01", 127: "\x7f", 128: "\x80\x01", 129: "\x81\x01", 255: "\xff\x01", 256: "\x80\x02", 299: "\xab\x02", 300: "\xac\x02"} {
		all = append(all,
			pair{"text", `"` + times("a", n) + `"`, count + times("a", n)},
			pair{"text", `"` + times(`\"`, n) + `"`, count + times(`"`, n)},
			pair{"bytes", "x" + times("fe", n), count + times("\xfe", n)},
			pair{"[byte]", "[" + times("1,", n-1) + "2]", count + times("\x01", n-1) + "\x02"},
		)
	}
	return all
}

func TestP4Examples(t *testing.T) {
	one, two := "m={id:short,tag:text,on:?bool}", "p={x:int,y:int}\nm=<at:p|far:[byte]>"
	wantOK(t, Encode, one, `{258,"hi",+yes}`, "\x02\x01\x02\x68\x69\x01\x01")
	wantOK(t, Encode, one, `{0,"",-}`, "\x00\x00\x00\x00")
	wantError(t, Encode, one, "{70000,", api.ErrValue, 5)
	wantOK(t, Encode, two, "far:[1,2,255]", "\x01\x03\x01\x02\xff")
	wantOK(t, Encode, two, "at:{1,-1}", "\x00"+times("\x00", 7)+"\x01"+times("\xff", 8))
}

func wantOK(t *testing.T, do converter, desc, from, to string) {
	t.Helper()
	if s, e, at := do(desc, from); s != to || e != api.OK || at != 0 {
		t.Errorf("%q, %.80q: %.80q, %d, %d, want %.80q", desc, from, s, e, at, to)
	}
}

func wantError(t *testing.T, do converter, desc, from string, errno api.Errno, place int) {
	t.Helper()
	if s, e, at := do(desc, from); s != "" || e != errno || at != place {
		t.Errorf("%q, %.80q: %.80q, %d, %d, want %d, %d", desc, from, s, e, at, errno, place)
	}
}

func TestP4Values(t *testing.T) {
	for _, p := range pairs() {
		wantOK(t, Encode, "m="+p.of, p.value, p.data)
	}
}

// A description's last line tells the type, by whatever names.
func TestP4Names(t *testing.T) {
	desc := "a=byte\nb={a:a,b:[a]}\nc=<b:b|a:a>\nd=?c"
	wantOK(t, Encode, desc, "+b:{1,[2,3]}", "\x01\x00\x01\x02\x02\x03")
	wantOK(t, Encode, desc, "+a:255", "\x01\x01\xff")
	wantError(t, Encode, desc, "+b:{1,[2,256]}", api.ErrValue, 11)
	wantOK(t, Encode, "a=text\nb=byte", "7", "\x07")
	wantOK(t, Encode, "m="+times("?", 11)+"byte", times("+", 11)+"1", times("\x01", 12))
	wantOK(t, Encode, "m="+times("[", 11)+"byte"+times("]", 11), times("[", 11)+"1"+times("]", 11), times("\x01", 12))
}

func TestP4WrongValues(t *testing.T) {
	most := times("1,", 299)
	for of, values := range map[string][]string{
		"byte":  {"^", "^ 1", "^-1", "^-", "^+1", "^a", "^\"1\"", "0^0", "0^1", "1^ ", "1^a", "1^.0", "1^,", "25^6", "26^0", "255^0", "99^9", "^\x00", "^\xff"},
		"short": {"^", "^-1", "0^0", "6553^6", "6554^0", "65535^0", "7000^0", "9999^9"},
		"word":  {"^", "^-1", "0^1", "429496729^6", "429496730^0", "4294967295^0", "999999999^9", "1844674407^3709551616"},
		"int":   {"^", "-^", "-^0", "-^00", "-^-1", "^+1", "-^a", "0^1", "0^-", "922337203685477580^8", "922337203685477581^0", "9223372036854775807^0", "-922337203685477580^9", "-9223372036854775808^0", "999999999999999999^9", "-999999999999999999^9", "1^-"},
		"bool":  {"^", "y^", "ye^", "n^", "^Y", "^o", "y^o", "n^e", "yes^s", "no^o", "yes^n", "^1", "^true"},
		"text":  {"^", "^a", "^'", `"^`, `"a^`, `"\^`, `"\^a`, `"\^n"`, `"\"^`, "\"^\x1f", "\"^\x7f\"", "\"^\x80", "\"a^\n\"", "\"^é\"", `""^"`, `"a"^ `, `"` + times("a", 300) + `^a"`, `"` + times("a", 300) + "^", `"` + times("a", 300) + `^\"`, `"` + times(`\"`, 300) + `^\"`, `"` + times("a", 300) + "^\x00"},
		"bytes": {"^", "^0", "^X", "x0^", "x0^g", "x^g0", "x^A0", "x0^A", "x00^ ", "x00^,", "x0^x", "x" + times("00", 300) + "^0", "x" + times("00", 300) + "^00", "x" + times("00", 299) + "0^"},
		"[byte]": {"^", "^1", "^{", "[^", "[^,", "[1^", "[1^}", "[1^ ]", "[1,^", "[1,^]", "[1,^,", "[^-]", "[1,25^6]", "[]^]", "[1]^,", "[0^0]",
			"[" + most + "1^,1]", "[" + most + "1^,", "[" + most + "1^", "[" + most + "^]"},
		"[[bool]]":                   {"[^y", "[[y^]", "[[yes]^yes]", "[[yes],^yes]", "[[yes]^"},
		"?byte":                      {"^", "^1", "+^", "+^+", "+^-", "-^-", "-^1", "+0^0", "+25^6", "^ "},
		"??byte":                     {"+^1", "++^", "+-^1"},
		"{a:byte}":                   {"^", "^1", "{^", "{^}", "{^{", "{1^", "{1^,", "{1^]", "{1}^}"},
		"{a:byte,b:?text}":           {"{1^}", "{^,", "{1,^", "{1,^}", "{1,-^", "{1,-^,", "{1,+^}", "{1,+\"^", "{1,-}^ ", "{25^6,-}"},
		"<abc:byte|abd:bool|x:text>": {"^", "a^", "ab^", "abc^", "abc:^", "^:", "a^:", "ab^:1", "ab^x", "a^x:", "abc^d", "abc:^y", "abd:^1", "^ABC", "^0:1", "x^x", "x:^1", "^b", "abc:1^:"},
		"<a:byte|ab:byte>":           {"a^", "ab^", "a:^", "ab:^", "a^a", "ab^b", "a^c:1", "^b:1"},
	} {
		for _, with := range values {
			value, at := marked(with)
			wantError(t, Encode, "m="+of, value, api.ErrValue, at)
		}
	}
}

// Every byte where a digit, a sign of a text or a first sign may stand.
func TestP4EveryByte(t *testing.T) {
	for b := range 256 {
		sign := string([]byte{byte(b)})
		isDigit, isLetter := sign >= "0" && sign <= "9", sign >= "a" && sign <= "f"
		if !isDigit {
			wantError(t, Encode, "m=byte", sign, api.ErrValue, 0)
			wantError(t, Encode, "m=byte", "1"+sign, api.ErrValue, 1)
		}
		if !isDigit || sign == "0" {
			wantError(t, Encode, "m=int", "-"+sign, api.ErrValue, 1)
		}
		if !isDigit && !isLetter {
			wantError(t, Encode, "m=bytes", "x"+sign+"0", api.ErrValue, 1)
			wantError(t, Encode, "m=bytes", "x0"+sign, api.ErrValue, 2)
		}
		if b < 32 || b > 126 {
			wantError(t, Encode, "m=text", `"`+sign+`"`, api.ErrValue, 1)
		} else if sign != `"` && sign != `\` {
			wantOK(t, Encode, "m=text", `"`+sign+`"`, "\x01"+sign)
			wantError(t, Encode, "m=text", `"\`+sign+`"`, api.ErrValue, 2)
		}
		if sign != "+" && sign != "-" {
			wantError(t, Encode, "m=?byte", sign, api.ErrValue, 0)
		}
	}
}

// Where a value is begun right and does not go on, the place is its end.
func TestP4ValuesCutOff(t *testing.T) {
	for _, p := range pairs() {
		for i := range min(len(p.value), 40) {
			s, e, at := Encode("m="+p.of, p.value[:i])
			if e != api.OK && (s != "" || e != api.ErrValue || at != i) {
				t.Errorf("%q, %q: %q, %d, %d, want the place %d", p.of, p.value[:i], s, e, at, i)
			}
		}
		wantError(t, Encode, "m="+p.of, p.value+" ", api.ErrValue, len(p.value))
	}
}

// listOfBytes is the value of a list of bytes whose message has n bytes.
func listOfBytes(n int) string {
	value := "["
	for n -= 1; n > 300; n -= 300 {
		value += "x" + times("00", 298) + ","
	}
	if n > 129 { // a count of two bytes
		n--
	}
	return value + "x" + times("00", n-1) + "]"
}

func TestP4LongMessages(t *testing.T) {
	desc := "m=[bytes]"
	for _, n := range []int{2, 100, 999, 1000} {
		s, e, at := Encode(desc, listOfBytes(n))
		if len(s) != n || e != api.OK || at != 0 {
			t.Errorf("a message of %d bytes: %d, %d, %d", n, len(s), e, at)
		}
	}
	for _, n := range []int{1001, 1002, 2000, 50000} {
		value := listOfBytes(n)
		wantError(t, Encode, desc, value, api.ErrLong, 0)
		wantError(t, Encode, desc, value[:len(value)-1], api.ErrValue, len(value)-1)
		wantError(t, Encode, desc, value+"]", api.ErrValue, len(value))
	}
	words := "m=[{a:word,b:int}]"
	wantError(t, Encode, words, "["+times("{0,0},", 83)+"{0,0}]", api.ErrLong, 0)
	if s, e, at := Encode(words, "["+times("{0,0},", 82)+"{0,0}]"); len(s) != 997 || e != api.OK || at != 0 {
		t.Errorf("a message of 997 bytes: %d, %d, %d", len(s), e, at)
	}
}

func TestP4DescriptionFirst(t *testing.T) { wantDescriptionFirst(t, Encode) }

func wantDescriptionFirst(t *testing.T, do converter) {
	for _, c := range []struct {
		desc  string
		errno api.Errno
		at    int
	}{
		{"", api.ErrForm, 0}, {"a=[byte", api.ErrForm, 7}, {"a=b", api.ErrName, 2}, {"a=byte\na=int", api.ErrName, 7},
		{"a=byte\nb=" + times("?", 12) + "byte", api.ErrDeep, 7}, {times("a", 401), api.ErrLong, 0},
	} {
		for _, from := range []string{"", "1", "x", times("\x01", 1000), times("x", 5000)} {
			wantError(t, do, c.desc, from, c.errno, c.at)
		}
	}
}

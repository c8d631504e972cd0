package sluice

import (
	"testing"

	"sluice/api"
)

func TestP5Examples(t *testing.T) {
	one, two := "m={id:short,tag:text,on:?bool}", "p={x:int,y:int}\nm=<at:p|far:[byte]>"
	wantOK(t, Decode, one, "\x02\x01\x02\x68\x69\x01\x01", `{258,"hi",+yes}`)
	wantOK(t, Decode, one, "\x00\x00\x00\x00", `{0,"",-}`)
	wantError(t, Decode, one, "\x02\x01\x02\x68\x69\x02", api.ErrData, 5)
	wantError(t, Decode, one, "\x02\x01\x02\x68", api.ErrData, 4)
	wantOK(t, Decode, two, "\x01\x03\x01\x02\xff", "far:[1,2,255]")
	wantError(t, Decode, two, "\x07", api.ErrData, 0)
}

func TestP5Messages(t *testing.T) {
	for _, p := range pairs() {
		wantOK(t, Decode, "m="+p.of, p.data, p.value)
	}
}

func TestP5Names(t *testing.T) {
	desc := "a=byte\nb={a:a,b:[a]}\nc=<b:b|a:a>\nd=?c"
	wantOK(t, Decode, desc, "\x01\x00\x01\x02\x02\x03", "+b:{1,[2,3]}")
	wantOK(t, Decode, desc, "\x01\x01\xff", "+a:255")
	wantError(t, Decode, desc, "\x01\x02\xff", api.ErrData, 1)
	wantOK(t, Decode, "m="+times("?", 11)+"byte", times("\x01", 12), times("+", 11)+"1")
}

func TestP5WrongMessages(t *testing.T) {
	five := "a:byte|b:byte|c:byte|d:byte|e:byte"
	for of, messages := range map[string][]string{
		"byte":                 {"^", "\x00^\x00", "\xff^\x00"},
		"short":                {"^", "\x00^", "\x00\x00^\x00"},
		"word":                 {"^", "\x00^", "\x00\x00^", "\x00\x00\x00^", "\x00\x00\x00\x00^\x00"},
		"int":                  {"^", "\x00^", "\x00\x00\x00\x00\x00\x00\x00^", "\x00\x00\x00\x00\x00\x00\x00\x00^\x00"},
		"bool":                 {"^", "^\x02", "^\x03", "^\x80", "^\xff", "^yes", "\x01^\x01"},
		"text":                 {"^", "\x01^", "\x01^\x1f", "\x01^\x7f", "\x01^\x80", "\x01^\xff", "\x01^\x00", "\x03ab^", "\x03a^\nb", "\x03ab^\n", "\x03a^\n", "\x01a^b", "\x00^\x00"},
		"bytes":                {"^", "\x01^", "\x02\x00^", "\x01\x00^\x00", "\x00^\x00"},
		"[byte]":               {"^", "\x01^", "\x02\x00^", "\x01\x00^\x00", "\x00^\x00"},
		"[bool]":               {"\x02\x00^\x02", "\x02^\x02\x02", "\x03\x00\x01^", "\x01\x00^\x02"},
		"[[bool]]":             {"\x01^", "\x01\x01^", "\x02\x00\x01^\x02", "\x02\x01\x01^", "\x02\x00\x80^\x00"},
		"?byte":                {"^", "^\x02", "^\xff", "^+", "\x01^", "\x00^\x00", "\x01\x00^\x00"},
		"??bool":               {"\x01^", "\x01^\x02", "\x01\x01^", "\x01\x01^\x02", "\x01\x00^\x00"},
		"{a:bool,b:bool}":      {"^", "^\x02", "\x00^", "\x00^\x02", "\x00\x01^\x00"},
		"<a:byte>":             {"^", "^\x01", "\x00^", "\x00\x00^\x00"},
		"<a:byte|b:[bool]>":    {"^", "^\x02", "^\x80", "^\xff", "\x00^", "\x01^", "\x01\x01^\x02", "\x01\x01^"},
		"<" + five + "|f:int>": {"^\x06", "\x05^"},
	} {
		for _, with := range messages {
			data, at := marked(with)
			wantError(t, Decode, "m="+of, data, api.ErrData, at)
		}
	}
}

// Every pair of bytes that is no count, and every count.
func TestP5Counts(t *testing.T) {
	for _, of := range []string{"text", "bytes", "[byte]"} {
		for low := range 256 {
			for high := range 256 {
				n := low&127 | high<<7
				if low < 128 || high > 0 && high < 128 && n <= 300 {
					continue // such are tried below
				}
				head := string([]byte{byte(low), byte(high)})
				wantError(t, Decode, "m="+of, head, api.ErrData, 1)
				wantError(t, Decode, "m="+of, head+times("a", 300), api.ErrData, 1)
			}
		}
		for n := range 301 {
			count := []byte{byte(n)}
			if n > 127 {
				count = []byte{byte(n&127 | 128), byte(n >> 7)}
				wantError(t, Decode, "m="+of, string(count[:1]), api.ErrData, 1)
			}
			data := string(count) + times("a", n)
			if s, e, at := Decode("m="+of, data); s == "" || e != api.OK || at != 0 {
				t.Errorf("%s, a count of %d: %d, %d", of, n, e, at)
			}
			if n > 0 {
				wantError(t, Decode, "m="+of, data[:len(data)-1], api.ErrData, len(data)-1)
			}
			wantError(t, Decode, "m="+of, data+"a", api.ErrData, len(data))
		}
	}
}

// A wrong count within a message is found out there, whatever may stand behind it.
func TestP5CountsWithin(t *testing.T) {
	for of, messages := range map[string][]string{
		"[bytes]":         {"\x02\xad^\x02\x00", "\x02\x80^\x00\x00", "\x02\x00\xff^\x02\x00", "\x02\x80^\x80\x01"},
		"[[byte]]":        {"\x02\xad^\x02\x00", "\x02\x80^\x00\x00", "\x01\xff^\x7f"},
		"{a:text,b:bool}": {"\xad^\x02", "\x80^\x00\x00", "\x80^\x00", "\xff^\x03\x01"},
		"?text":           {"\x01\x80^\x00", "\x01\xad^\x02"},
	} {
		for _, with := range messages {
			data, at := marked(with)
			wantError(t, Decode, "m="+of, data, api.ErrData, at)
		}
	}
}

func TestP5TextBytes(t *testing.T) {
	for b := range 256 {
		data := "\x03a" + string([]byte{byte(b)}) + "z"
		if b < 32 || b > 126 {
			wantError(t, Decode, "m=text", data, api.ErrData, 2)
			continue
		}
		if s, e, at := Decode("m=text", data); len(s) < 5 || e != api.OK || at != 0 {
			t.Errorf("a text with the byte %d: %q, %d, %d", b, s, e, at)
		}
	}
}

// No message is the beginning of another one: cut off anywhere it ends ahead of
// its time, and no byte can stand behind it.
func TestP5MessagesCutOff(t *testing.T) {
	for _, p := range pairs() {
		for i := range len(p.data) {
			wantError(t, Decode, "m="+p.of, p.data[:i], api.ErrData, i)
		}
		for _, more := range []string{"\x00", "\x01", "a", "\xff"} {
			wantError(t, Decode, "m="+p.of, p.data+more, api.ErrData, len(p.data))
		}
	}
}

func TestP5LongMessages(t *testing.T) {
	value := listOfBytes(1000)
	message, _, _ := Encode("m=[bytes]", value)
	wantOK(t, Decode, "m=[bytes]", message, value)
	wantError(t, Decode, "m=[bytes]", message+"\x00", api.ErrLong, 0)
	wantError(t, Decode, "m=[bytes]", message[:999], api.ErrData, 999)
	for _, n := range []int{1001, 1002, 100000} {
		wantError(t, Decode, "m=bool", times("\x02", n), api.ErrLong, 0)
		wantError(t, Decode, "m=bool", times("\x01", n), api.ErrLong, 0)
	}
	wantError(t, Decode, "m=bool", times("\x02", 1000), api.ErrData, 0)
	wantError(t, Decode, "m=bool", times("\x01", 1000), api.ErrData, 1)
}

// What is begun right counts as cut off, even if it could end only beyond a
// message's limit.
func TestP5HoweverMany(t *testing.T) {
	for _, n := range []int{2, 500, 999, 1000} {
		data := "\xac\x02" + times("\xac\x02"+times("a", 300), 4)
		wantError(t, Decode, "m=[text]", data[:n], api.ErrData, n)
	}
	wantError(t, Decode, "m=[[byte]]", "\xac\x02"+times("\x00", 299)+"\xac\x02"+times("\x00", 299), api.ErrData, 602)
}

func TestP5DescriptionFirst(t *testing.T) { wantDescriptionFirst(t, Decode) }

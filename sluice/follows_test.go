package sluice

import (
	"testing"

	"sluice/api"
)

// lines is a description of several lines, each of which names the one ahead.
func (m maker) lines() (string, madeType) {
	of := m.anyType(1 + m.IntN(3))
	desc, ahead := "a="+of.text, "a"
	for _, name := range []string{"b", "c", "d"}[:m.IntN(4)] {
		named := madeType{ahead, of.value}
		if m.IntN(2) == 0 {
			of = m.list(named)
		} else {
			of = m.option(named)
		}
		desc += "\n" + name + "=" + of.text
		ahead = name
	}
	return desc, of
}

// wantThereAndBack asks for a value's own text behind its message.
func wantThereAndBack(t *testing.T, desc, text string) {
	t.Helper()
	data, e, _ := Encode(desc, text)
	if e == api.ErrLong {
		return
	}
	if back, errno, at := Decode(desc, data); e != api.OK || back != text || errno != api.OK || at != 0 {
		t.Fatalf("%q, %q: %d, %q, %q, %d, %d", desc, text, e, data, back, errno, at)
	}
}

// wantBytesBack asks for the bytes themselves behind what Decode makes of them,
// if it takes them; it tells the value then.
func wantBytesBack(t *testing.T, desc, data string) (string, bool) {
	t.Helper()
	text, e, _ := Decode(desc, data)
	if e != api.OK {
		return "", false
	}
	if back, errno, at := Encode(desc, text); back != data || errno != api.OK || at != 0 {
		t.Fatalf("%q, %q: %q, %q, %d, %d", desc, data, text, back, errno, at)
	}
	return text, true
}

func TestP11ValuesThereAndBack(t *testing.T) {
	m := newMaker(21)
	for range 3000 {
		desc, of := m.lines()
		if e, at := Check(desc); e == api.ErrLong {
			continue
		} else if e != api.OK {
			t.Fatalf("Check(%q) = %d, %d", desc, e, at)
		}
		wantThereAndBack(t, desc, of.value().text)
	}
	for _, p := range pairs() {
		wantThereAndBack(t, "m="+p.of, p.value)
	}
	wantThereAndBack(t, "m=[bytes]", listOfBytes(1000))
}

// Bytes that are a message, or were one ahead of a change.
func TestP11BytesThereAndBack(t *testing.T) {
	m, taken := newMaker(22), 0
	for range 3000 {
		desc, of := m.lines()
		data := []byte(of.value().data)
		for range 6 {
			if _, ok := wantBytesBack(t, desc, string(data)); ok {
				taken++
			}
			data[m.IntN(len(data))] = byte(m.IntN(256) >> m.IntN(8))
		}
	}
	if taken < 4000 {
		t.Errorf("only %d rows of bytes were taken", taken)
	}
}

// Of all short rows of some bytes no two are the same value.
func TestP11NoTwoMessagesOfOneValue(t *testing.T) {
	bytes := []string{"\x00", "\x01", "\x02", "\x03", " ", "a", "\"", "\\", "\x7f", "\x80", "\x81", "\xac", "\xff"}
	for _, of := range []string{"byte", "short", "word", "bool", "text", "bytes", "[byte]", "[bool]", "[text]", "[[bool]]", "?byte", "??bool", "?text", "{a:byte,b:text}", "{a:bytes,b:bytes}", "<a:byte|b:?bool|c:text>", "<a:byte|ab:byte>", "[?bytes]", "[<a:bool|b:short>]"} {
		messages := map[string]string{}
		rows := just("")
		for range 4 {
			rows = join(rows, bytes)
			for _, data := range rows {
				text, ok := wantBytesBack(t, "m="+of, data)
				if !ok {
					continue
				}
				if first, known := messages[text]; known {
					t.Fatalf("%s: %q and %q are both %q", of, first, data, text)
				}
				messages[text] = data
			}
		}
	}
}

// No text but one is told for a value: others that mean as much are none.
func TestP11NoTwoTextsOfOneValue(t *testing.T) {
	for of, texts := range map[string][]string{
		"byte": {"01", "+1", "1 ", " 1", "1.0", "0x1", "-0", "00", "1e0"}, "int": {"-0", "+0", "-01", "00", "+1", "- 1"},
		"bool": {"1", "0", "Yes", "true", "YES", "y"}, "bytes": {"", "xFF", "xF", "0x00", "x 00", "\"\""}, "text": {`"\a"`, `"\x41"`, "'a'", "a", "`a`", `"\u0041"`},
		"[byte]": {"[1,]", "[,]", "[ ]", "[1, 2]", "[01]"}, "?byte": {"", "1", "+ 1", "++1", "+-"}, "{a:byte}": {"{a:1}", "{1,}", "1", "{ 1}"}, "<a:byte>": {"a: 1", "a:01", "1", "0:1", "A:1", "<a:1>"},
	} {
		for _, text := range texts {
			if data, e, _ := Encode("m="+of, text); data != "" || e != api.ErrValue {
				t.Errorf("%s, %q: %q, %d", of, text, data, e)
			}
		}
	}
}

// What goes in comes out in the same order, byte by byte, the ring going round
// many times with always some frames in it.
func TestP11SameOrderByteByByte(t *testing.T) {
	m := newMaker(23)
	for _, granules := range []int{2, 3, 4, 5, 7, 8, 16, 33, 63, 64} {
		r, put, taken := newRing(t, granules), []string{}, 0
		for taken < 500 && !t.Failed() {
			data := make([]byte, m.IntN(granules/2*8-1))
			for i := range data {
				data[i] = byte(m.IntN(256))
			}
			if r.Put(string(data)) == api.OK {
				put = append(put, string(data))
				continue
			}
			for range 1 + m.IntN(len(put)-taken) {
				taken++
				wantTake(t, r, taken, api.OK)
				wantFrame(t, r, taken, put[taken-1])
				wantRelease(t, r, taken, api.OK)
			}
		}
	}
}

// A frame that is held stays as it is, wherever it lies, and whatever else is done.
func TestP11HeldFramesStay(t *testing.T) {
	for granules := 2; granules <= 12; granules++ {
		for begin := range granules {
			r := newRing(t, granules)
			for i := range begin {
				putThrough(t, r, i+1, "")
			}
			held, data := begin+1, times("h", granules/2*8-2)
			wantPut(t, r, data, api.OK)
			wantTake(t, r, held, api.OK)
			for i := range 5 * granules {
				r.Put(times("\xff", i%granules*4))
				wantFrame(t, r, held, data)
				if frame, e := r.Take(); e == api.OK && i%3 > 0 {
					wantRelease(t, r, frame, api.OK)
				}
				wantFrame(t, r, held, data)
			}
			r.Shut()
			wantFrame(t, r, held, data)
			wantRelease(t, r, held, api.OK)
		}
	}
}

// Nothing waits and nothing is held: then there is room, wherever the ring is.
func TestP11EmptyRingHasRoom(t *testing.T) {
	for _, granules := range []int{2, 3, 4, 5, 6, 7, 8, 9, 31, 63, 64} {
		for begin := range granules {
			for size := 1; size <= granules/2; size++ {
				r := newRing(t, granules)
				for i := range begin {
					putThrough(t, r, i+1, "")
				}
				putThrough(t, r, begin+1, sized(size))
				putThrough(t, r, begin+2, sized(granules/2))
				wantRoom(t, r, 0, 0, 0)
			}
		}
	}
}

// So it is with a bus, though what went through was no message.
func TestP11EmptyBusHasRoom(t *testing.T) {
	for granules := 2; granules <= 64; granules++ {
		b, half := newBus(t, "m=bytes", granules), granules/2
		value := "x" + times("00", 8*half-2-len(countBytes(8*half-3))) // half of the ring
		for i := range 3 * granules {
			wantRaw(t, b, times("\xff", 8*(i%half+1)-2), api.OK)
			wantConsume(t, b, 2*i+1, "", api.ErrData)
			wantPublish(t, b, value, api.OK, 0)
			wantConsume(t, b, 2*i+2, value, api.OK)
			wantBusRelease(t, b, 2*i+2, api.OK)
		}
	}
}

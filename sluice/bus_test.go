package sluice

import (
	"math"
	"slices"
	"strings"
	"testing"

	"sluice/api"
)

const plain = "m={id:short,tag:text,on:?bool}"

func newBus(t *testing.T, desc string, granules int) *Bus {
	t.Helper()
	b, e, at := NewBus(desc, granules)
	if b == nil || e != api.OK || at != 0 {
		t.Fatalf("NewBus(%q, %d) = %v, %d, %d", desc, granules, b, e, at)
	}
	return b
}

func wantNoBus(t *testing.T, desc string, granules int, errno api.Errno, place int) {
	t.Helper()
	if b, e, at := NewBus(desc, granules); b != nil || e != errno || at != place {
		t.Errorf("NewBus(%.60q, %d) = %v, %d, %d, want %d, %d", desc, granules, b, e, at, errno, place)
	}
}

func wantPublish(t *testing.T, b *Bus, value string, errno api.Errno, place int) {
	t.Helper()
	if e, at := b.Publish(value); e != errno || at != place {
		t.Errorf("Publish(%.60q) = %d, %d, want %d, %d", value, e, at, errno, place)
	}
}

func wantRaw(t *testing.T, b *Bus, data string, errno api.Errno) {
	t.Helper()
	if e := b.Raw(data); e != errno {
		t.Errorf("Raw(%.60q) = %d, want %d", data, e, errno)
	}
}

func wantConsume(t *testing.T, b *Bus, frame int, value string, errno api.Errno) {
	t.Helper()
	if n, v, e := b.Consume(); n != frame || v != value || e != errno {
		t.Errorf("Consume() = %d, %q, %d, want %d, %q, %d", n, v, e, frame, value, errno)
	}
}

func wantField(t *testing.T, b *Bus, frame int, path, value string, errno api.Errno, place int) {
	t.Helper()
	if v, e, at := b.Field(frame, path); v != value || e != errno || at != place {
		t.Errorf("Field(%d, %.60q) = %q, %d, %d, want %q, %d, %d", frame, path, v, e, at, value, errno, place)
	}
}

func wantBusRelease(t *testing.T, b *Bus, frame int, errno api.Errno) {
	t.Helper()
	if e := b.Release(frame); e != errno {
		t.Errorf("Release(%d) = %d, want %d", frame, e, errno)
	}
}

func wantBusShut(t *testing.T, b *Bus, errno api.Errno) {
	t.Helper()
	if e := b.Shut(); e != errno {
		t.Errorf("Shut() = %d, want %d", e, errno)
	}
}

func wantBusRoom(t *testing.T, b *Bus, want api.Room) {
	t.Helper()
	if room := b.Room(); room != want {
		t.Errorf("Room() = %+v, want %+v", room, want)
	}
}

// A wrong description is ahead of a wrong number of granules.
func TestP10NewBusByItsDescription(t *testing.T) {
	refused := 0
	for _, desc := range []string{"", "m", "m=", "a=b", "a={x:byte,x:byte}", "a=[byte", "byte=int", "a=byte\na=int", "a=byte\n", "A=byte", "a=byte\nb=" + times("?", 12) + "a", times("a", 401), times("a=byte\n", 10) + "a=byte", "a=byte ", "a=byte", plain, "p={x:int,y:int}\nm=<at:p|far:[byte]>"} {
		errno, at := Check(desc)
		if errno == api.OK {
			wantBusRoom(t, newBus(t, desc, 2), api.Room{})
			continue
		}
		refused++
		for _, granules := range []int{2, 64, 1, 0, -1, 65, math.MinInt, math.MaxInt} {
			wantNoBus(t, desc, granules, errno, at)
		}
	}
	if refused != 14 {
		t.Errorf("%d descriptions were refused", refused)
	}
	wantNoBus(t, "a=b", 4, api.ErrName, 2)
	wantNoBus(t, "a=b", 1, api.ErrName, 2)
	wantNoBus(t, "a=byte\nb="+times("?", 12)+"a", 4, api.ErrDeep, 7)
}

func TestP10SizesOfBuses(t *testing.T) {
	for granules := -70; granules <= 200; granules++ {
		if granules >= 2 && granules <= 64 {
			wantBusRoom(t, newBus(t, plain, granules), api.Room{})
		} else {
			wantNoBus(t, plain, granules, api.ErrConf, 0)
		}
	}
	for _, granules := range []int{math.MinInt, math.MinInt + 2, math.MinInt32, 1<<32 + 2, math.MaxInt} {
		wantNoBus(t, plain, granules, api.ErrConf, 0)
	}
}

func TestP10PublishAndConsume(t *testing.T) {
	b := newBus(t, plain, 6)
	wantConsume(t, b, 0, "", api.ErrEmpty)
	wantPublish(t, b, `{258,"hi",+yes}`, api.OK, 0) // 7 bytes, 2 granules
	wantPublish(t, b, `{0,"",-}`, api.OK, 0)        // 4 bytes, 1 granule
	wantBusRoom(t, b, api.Room{Taken: 3, Waiting: 2})
	wantConsume(t, b, 1, `{258,"hi",+yes}`, api.OK)
	wantBusRoom(t, b, api.Room{Taken: 3, Waiting: 1, Held: 1})
	wantPublish(t, b, `{3,"a\"\\",-}`, api.OK, 0) // 7 bytes
	wantConsume(t, b, 2, `{0,"",-}`, api.OK)
	wantConsume(t, b, 3, `{3,"a\"\\",-}`, api.OK)
	wantConsume(t, b, 0, "", api.ErrEmpty)
	wantBusRoom(t, b, api.Room{Taken: 5, Held: 3})
}

// The message is what Encode makes, with nothing beside it.
func TestP10MessagesTakeTheirRoom(t *testing.T) {
	for bytes := range 251 {
		b := newBus(t, "m=text", 64)
		wantPublish(t, b, `"`+times("a", bytes)+`"`, api.OK, 0)
		message := len(countBytes(bytes)) + bytes
		wantBusRoom(t, b, api.Room{Taken: (message + 2 + 7) / 8, Waiting: 1})
	}
	b := newBus(t, "m=text", 64)
	wantPublish(t, b, `"`+times("a", 252)+`"`, api.OK, 0) // 254 bytes, 32 granules
	wantPublish(t, b, `"`+times("a", 253)+`"`, api.ErrLarge, 0)
	wantBusRoom(t, b, api.Room{Taken: 32, Waiting: 1})
}

// A value that is none is ahead of a ring that does not take it.
func TestP10PublishRefusedByEncode(t *testing.T) {
	b := newBus(t, plain, 4)
	wantAllWrong := func() {
		t.Helper()
		before := b.Room()
		for value, place := range map[string]int{"": 0, "{": 1, `{0,"",-`: 7, `{0,"",-}}`: 8, `{65536,"",-}`: 5, `{70000,`: 5, `{1,a}`: 3, `{1,"` + times("a", 301): 304, ` {1,"",-}`: 0} {
			wantPublish(t, b, value, api.ErrValue, place)
		}
		wantBusRoom(t, b, before)
	}
	wantAllWrong()
	wantPublish(t, b, `{1,"abc",-}`, api.OK, 0) // 7 bytes, 2 granules
	wantPublish(t, b, `{2,"abc",-}`, api.OK, 0)
	wantPublish(t, b, `{3,"",-}`, api.ErrFull, 0)
	wantAllWrong()
	wantBusShut(t, b, api.OK)
	wantAllWrong()
	wantConsume(t, b, 1, `{1,"abc",-}`, api.OK)
	wantConsume(t, b, 2, `{2,"abc",-}`, api.OK)
	wantConsume(t, b, 0, "", api.ErrShut)
}

func TestP10PublishTooLongForAMessage(t *testing.T) {
	b := newBus(t, "m=[bytes]", 64)
	for range 2 { // open, and then shut
		wantPublish(t, b, listOfBytes(1001), api.ErrLong, 0)
		wantBusRoom(t, b, api.Room{Shut: b.Room().Shut})
		b.Shut()
	}
	wantPublish(t, b, listOfBytes(1000), api.ErrShut, 0)
	wantPublish(t, newBus(t, "m=[bytes]", 64), listOfBytes(1000), api.ErrLarge, 0)
}

// Shut is ahead of too large, and that ahead of full; each leaves all as it was.
func TestP10PublishRefusedByTheRing(t *testing.T) {
	b := newBus(t, "m=bytes", 4)
	small, half, large := "x"+times("00", 5), "x"+times("00", 13), "x"+times("00", 14)
	wantPublish(t, b, large, api.ErrLarge, 0)
	wantBusRoom(t, b, api.Room{})
	wantPublish(t, b, half, api.OK, 0)
	wantPublish(t, b, small, api.OK, 0)
	wantPublish(t, b, half, api.ErrFull, 0)
	wantPublish(t, b, large, api.ErrLarge, 0)
	wantBusRoom(t, b, api.Room{Taken: 3, Waiting: 2})
	wantPublish(t, b, small, api.OK, 0)
	wantPublish(t, b, small, api.ErrFull, 0)
	wantBusShut(t, b, api.OK)
	for _, value := range []string{small, half, large} {
		wantPublish(t, b, value, api.ErrShut, 0)
	}
	wantBusRoom(t, b, api.Room{Taken: 4, Waiting: 3, Shut: true})
	for i, value := range []string{half, small, small} {
		wantConsume(t, b, i+1, value, api.OK) // what was refused has no number
	}
}

func TestP10RawAsPut(t *testing.T) {
	for _, desc := range []string{plain, "m=byte", "m=bytes"} {
		b := newBus(t, desc, 5)
		wantRaw(t, b, sized(3), api.ErrLarge)
		wantRaw(t, b, sized(2)+"z", api.ErrLarge)
		wantRaw(t, b, times("z", 1<<20), api.ErrLarge)
		wantBusRoom(t, b, api.Room{})
		wantRaw(t, b, sized(2), api.OK)
		wantRaw(t, b, "", api.OK)
		wantRaw(t, b, "\x00\xff", api.OK)
		wantRaw(t, b, sized(2), api.ErrFull)
		wantRaw(t, b, sized(3), api.ErrLarge)
		wantBusRoom(t, b, api.Room{Taken: 4, Waiting: 3})
		wantBusShut(t, b, api.OK)
		for _, data := range []string{"", "\x00", sized(2), sized(3)} {
			wantRaw(t, b, data, api.ErrShut)
		}
		wantBusRoom(t, b, api.Room{Taken: 4, Waiting: 3, Shut: true})
	}
}

// Bytes that are a message are one, however they came in.
func TestP10RawMessages(t *testing.T) {
	for _, p := range pairs() {
		b := newBus(t, "m="+p.of, 64)
		if granules := (len(p.data) + 9) / 8; granules > 32 {
			wantRaw(t, b, p.data, api.ErrLarge)
			continue
		}
		wantRaw(t, b, p.data, api.OK)
		wantConsume(t, b, 1, p.value, api.OK)
		wantField(t, b, 1, "", p.value, api.OK, 0)
		wantBusRelease(t, b, 1, api.OK)
		wantPublish(t, b, p.value, api.OK, 0)
		wantConsume(t, b, 2, p.value, api.OK)
		wantBusRelease(t, b, 2, api.OK)
		for i, none := range []string{p.data + "\x00", p.data[:len(p.data)-1]} {
			wantRaw(t, b, none, api.OK)
			wantConsume(t, b, 3+i, "", api.ErrData)
		}
		wantBusRoom(t, b, api.Room{})
	}
}

// What is no message is let go at once: nobody has it, and its room is free as
// soon as nothing older is in the way.
func TestP10ConsumeOfWhatIsNoMessage(t *testing.T) {
	b := newBus(t, plain, 6)
	wantRaw(t, b, "\x02\x01\x02hi\x02", api.OK) // 1 granule
	wantRaw(t, b, "\x02\x01\x02h", api.OK)      // 1
	wantPublish(t, b, `{7,"",-}`, api.OK, 0)    // 1
	wantRaw(t, b, "", api.OK)                   // 1
	wantPublish(t, b, `{8,"abc",-}`, api.OK, 0) // 2
	wantPublish(t, b, `{9,"",-}`, api.ErrFull, 0)
	wantConsume(t, b, 1, "", api.ErrData)
	wantBusRoom(t, b, api.Room{Taken: 5, Waiting: 4})
	wantField(t, b, 1, "", "", api.ErrFrame, 0)
	wantBusRelease(t, b, 1, api.ErrFrame)
	wantConsume(t, b, 2, "", api.ErrData)
	wantBusRoom(t, b, api.Room{Taken: 4, Waiting: 3})
	wantConsume(t, b, 3, `{7,"",-}`, api.OK)
	wantConsume(t, b, 4, "", api.ErrData)
	wantBusRoom(t, b, api.Room{Taken: 4, Waiting: 1, Held: 1}) // the third is older
	wantField(t, b, 4, "id", "", api.ErrFrame, 0)
	wantBusRelease(t, b, 4, api.ErrFrame)
	wantField(t, b, 3, "id", "7", api.OK, 0)
	wantBusRelease(t, b, 3, api.OK)
	wantBusRoom(t, b, api.Room{Taken: 2, Waiting: 1})
	wantConsume(t, b, 5, `{8,"abc",-}`, api.OK)
	wantBusRelease(t, b, 5, api.OK)
	wantConsume(t, b, 0, "", api.ErrEmpty)
	wantBusRoom(t, b, api.Room{})
}

// No message is empty, of whatever type; nor are too many bytes one.
func TestP10ConsumeOfNothingAndOfTooMuch(t *testing.T) {
	for _, of := range []string{"byte", "short", "word", "int", "bool", "text", "bytes", "[byte]", "?byte", "{a:byte}", "<a:byte>"} {
		b := newBus(t, "m="+of, 64)
		for i, data := range []string{"", times("\x00", 9), times("\x00", 254), times("\xff", 254)} {
			wantRaw(t, b, data, api.OK)
			wantConsume(t, b, i+1, "", api.ErrData)
			wantBusRoom(t, b, api.Room{})
		}
	}
}

func TestP10ConsumeOfAShutBus(t *testing.T) {
	b := newBus(t, "m=byte", 4)
	wantRaw(t, b, "\x07", api.OK)
	wantRaw(t, b, "\x07\x07", api.OK)
	wantRaw(t, b, "\x08", api.OK)
	wantBusShut(t, b, api.OK)
	wantBusShut(t, b, api.ErrShut)
	wantConsume(t, b, 1, "7", api.OK)
	wantConsume(t, b, 2, "", api.ErrData) // it waits, shut or not
	wantConsume(t, b, 3, "8", api.OK)
	wantConsume(t, b, 0, "", api.ErrShut)
	wantField(t, b, 3, "", "8", api.OK, 0)
	wantBusRoom(t, b, api.Room{Taken: 3, Held: 2, Shut: true})
	wantBusRelease(t, b, 3, api.OK)
	wantBusRelease(t, b, 1, api.OK)
	wantConsume(t, b, 0, "", api.ErrShut)
	wantBusShut(t, b, api.ErrShut)
	wantBusRoom(t, b, api.Room{Shut: true})
}

func TestP10FieldAsGet(t *testing.T) {
	desc, value := "p={x:int,y:int}\nm={id:short,to:[<at:p|far:[byte]>],tag:?text}", `{258,[far:[1,2,255],at:{-1,5}],+"a/b"}`
	b := newBus(t, desc, 32)
	wantPublish(t, b, value, api.OK, 0)
	wantConsume(t, b, 1, value, api.OK)
	for range 2 { // a message that was looked at stays
		for path, part := range map[string]string{"": value, "id": "258", "to": "[far:[1,2,255],at:{-1,5}]", "to/0": "far:[1,2,255]", "to/0/far/2": "255", "to/1/at": "{-1,5}", "to/1/at/x": "-1", "tag": `+"a/b"`, "tag/+": `"a/b"`} {
			wantField(t, b, 1, path, part, api.OK, 0)
		}
		for path, step := range map[string]int{"/": 0, "x": 0, "ID": 0, "id/": 1, "id/0": 1, "to/2": 1, "to/00": 1, "to/-1": 1, "to/*": 1, "to/0/at": 2, "to/0/far/3": 3, "to/1/at/z": 3, "to/1/at/x/y": 4, "tag/-": 1, "tag/+/0": 2, times("+/", 1<<16): 0} {
			wantField(t, b, 1, path, "", api.ErrPath, step)
		}
	}
	wantBusRoom(t, b, api.Room{Taken: 4, Held: 1})
}

// That no such message is held is ahead of a path that leads nowhere.
func TestP10FieldAndReleaseOnlyOfHeldMessages(t *testing.T) {
	b := newBus(t, "m=byte", 8)
	for i, data := range []string{"\x01", "\x02", "\x03", "none", "\x05", "\x06"} {
		wantRaw(t, b, data, api.OK)
		if i < 5 {
			b.Consume()
		}
	}
	wantBusRelease(t, b, 1, api.OK)
	wantBusRelease(t, b, 3, api.OK)
	before := b.Room()
	for _, frame := range []int{math.MinInt, math.MinInt + 1, math.MinInt + 2, -2, -1, 0, 1, 3, 4, 6, 7, 8, 64, 1<<32 + 2, math.MaxInt} {
		for _, path := range []string{"", "x", "/", "0"} {
			wantField(t, b, frame, path, "", api.ErrFrame, 0)
		}
		wantBusRelease(t, b, frame, api.ErrFrame)
	}
	wantBusRoom(t, b, before)
	wantField(t, b, 2, "", "2", api.OK, 0)
	wantField(t, b, 5, "", "5", api.OK, 0)
	wantField(t, b, 5, "x", "", api.ErrPath, 0)
	wantBusRelease(t, b, 2, api.OK)
	wantField(t, b, 2, "", "", api.ErrFrame, 0)
	wantField(t, b, 5, "", "5", api.OK, 0)
	wantConsume(t, b, 6, "6", api.OK)
}

// In whatever order messages are released, room comes back from the oldest on.
func TestP10ReleaseInWhateverOrder(t *testing.T) {
	for _, order := range orders([]int{1, 2, 3, 4}) {
		b, left := newBus(t, "m=byte", 4), []int{1, 2, 3, 4}
		for _, frame := range left {
			wantRaw(t, b, string([]byte{byte(frame)}), api.OK)
			b.Consume()
		}
		for _, frame := range order {
			wantBusRelease(t, b, frame, api.OK)
			wantBusRelease(t, b, frame, api.ErrFrame)
			left = slices.DeleteFunc(left, func(n int) bool { return n == frame })
			taken := 0
			if len(left) > 0 {
				taken = 5 - left[0]
			}
			wantBusRoom(t, b, api.Room{Taken: taken, Held: len(left)})
		}
	}
}

func TestP2BusesKnowNothingOfEachOther(t *testing.T) {
	one, two := newBus(t, "m=byte", 4), newBus(t, "m={a:bool,b:?byte}", 4)
	wantPublish(t, one, "1", api.OK, 0)
	wantConsume(t, two, 0, "", api.ErrEmpty)
	wantPublish(t, two, "{no,-}", api.OK, 0)
	wantPublish(t, two, "1", api.ErrValue, 0)
	wantPublish(t, two, "{yes,+2}", api.OK, 0)
	wantConsume(t, one, 1, "1", api.OK)
	wantConsume(t, two, 1, "{no,-}", api.OK)
	wantConsume(t, two, 2, "{yes,+2}", api.OK)
	wantBusShut(t, two, api.OK)
	wantBusRelease(t, two, 1, api.OK)
	wantField(t, one, 1, "", "1", api.OK, 0)
	wantField(t, two, 2, "b/+", "2", api.OK, 0)
	wantPublish(t, one, "3", api.OK, 0)
	wantBusRoom(t, one, api.Room{Taken: 2, Waiting: 1, Held: 1})
	wantBusRoom(t, two, api.Room{Taken: 1, Held: 1, Shut: true})
}

// What was told stays as it is, though its room has other bytes since.
func TestP2WhatABusToldStays(t *testing.T) {
	b := newBus(t, "m=text", 2)
	wantPublish(t, b, `"abc"`, api.OK, 0)
	_, value, _ := b.Consume()
	part, _, _ := b.Field(1, "")
	wantBusRelease(t, b, 1, api.OK)
	for range 3 {
		wantRaw(t, b, "\xff\xff\xff\xff\xff\xff", api.OK)
		b.Consume()
	}
	if value != `"abc"` || part != `"abc"` {
		t.Errorf("%q, %q", value, part)
	}
}

// Whatever is handed in, a call ends, and tells no more than an error and a
// place within what was handed in.
func TestP1WhateverIsHandedToABus(t *testing.T) {
	m := newMaker(12)
	signs := []string{"a", "=", "?", "[", "]", "{", "}", "<", ">", ":", ",", "|", "\n", "byte", "m=", "\x00", "\x01", "\x02", "\xff", "é", "-", "+", "\"", "\\", "1", "x", "/"}
	some := func() string {
		text := ""
		for range m.IntN(20) {
			text += signs[m.IntN(len(signs))]
		}
		return text
	}
	numbers := []int{math.MinInt, -1, 0, 1, 2, 3, 64, 65, math.MaxInt}
	for range 5000 {
		desc := some()
		if m.IntN(4) > 0 {
			desc = "m=" + m.anyType(3).text
		}
		b, e, at := NewBus(desc, numbers[m.IntN(len(numbers))])
		if (b == nil) == (e == api.OK) || at < 0 || at > len(desc) || e == api.OK && at != 0 {
			t.Fatalf("NewBus(%q): %v, %d, %d", desc, b, e, at)
		}
		for i := 0; b != nil && i < 10; i++ {
			value, data, path, frame := some(), some(), some(), numbers[m.IntN(len(numbers))]
			if e, at := b.Publish(value); at < 0 || at > len(value) || e != api.ErrValue && at != 0 {
				t.Fatalf("%q: Publish(%q) = %d, %d", desc, value, e, at)
			}
			b.Raw(data)
			if n, v, e := b.Consume(); (v != "") != (e == api.OK) || (n > 0) != (e == api.OK || e == api.ErrData) {
				t.Fatalf("%q: Consume() = %d, %q, %d", desc, n, v, e)
			}
			if v, e, at := b.Field(frame, path); (v != "") != (e == api.OK) || e != api.ErrPath && at != 0 || at < 0 || at > strings.Count(path, "/") {
				t.Fatalf("%q: Field(%d, %q) = %q, %d, %d", desc, frame, path, v, e, at)
			}
			b.Release(frame)
		}
	}
}

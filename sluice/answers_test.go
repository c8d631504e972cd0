package sluice

import (
	"fmt"
	"slices"
	"strings"
	"sync"
	"testing"

	"sluice/api"
)

// answer is all that a call tells.
type answer struct {
	text  string
	errno api.Errno
	at    int
}

// someCalls has calls of each kind, with and without errors.
func someCalls() []func() answer {
	var calls []func() answer
	add := func(do converter, desc, from string) {
		calls = append(calls, func() answer {
			text, errno, at := do(desc, from)
			return answer{text, errno, at}
		})
	}
	check := func(desc string, _ string) (string, api.Errno, int) {
		errno, at := Check(desc)
		return "", errno, at
	}
	tallyAll := func(desc string, messages []string, workers int) {
		calls = append(calls, func() answer {
			sums, refused, errno, at := Tally(desc, messages, workers)
			return answer{tallyText(sums, refused), errno, at}
		})
	}
	descriptions := []string{"", "a=byte", "a=b", "a=byte\na=byte", "m={id:short,tag:text,on:?bool}", "p={x:int,y:int}\nm=<at:p|far:[byte]>", "a=" + times("?", 12) + "byte", times("a", 401), "m=[bytes]", "a=[byte"}
	inputs := []string{"", "1", "{1,\"a\",-}", "at:{1,2}", "far:[1,2,255]", "\x01\x03\x01\x02\xff", "\x02\x01\x02hi\x01\x01", listOfBytes(1000), listOfBytes(1001), times("\x00", 1001), "\x07"}
	for _, desc := range descriptions {
		add(check, desc, "")
		for _, input := range inputs {
			add(Encode, desc, input)
			add(Decode, desc, input)
			for _, path := range []string{"", "id", "far/2", "far/3", "+/+", "0"} {
				add(getBy(desc), input, path)
			}
		}
		for _, workers := range []int{0, 1, 3, 8, 9} {
			tallyAll(desc, inputs, workers)
			tallyAll(desc, slices.Repeat(inputs, 6), workers)
		}
	}
	return calls
}

// tallyText is empty if there is nothing to tell.
func tallyText(sums []api.Sum, refused int) string {
	if len(sums) == 0 && refused == 0 {
		return ""
	}
	return fmt.Sprint(sums, refused)
}

func TestP1NothingBesideAnError(t *testing.T) {
	oks := 0
	for i, do := range someCalls() {
		a := do()
		if a.errno != api.OK && a.text != "" || a.errno == api.OK && a.at != 0 {
			t.Errorf("call %d: %v", i, a)
		}
		if a.errno == api.OK {
			oks++
		}
	}
	if oks < 10 {
		t.Errorf("only %d calls without an error", oks)
	}
}

func TestP2SameAnswerAgain(t *testing.T) {
	calls := someCalls()
	var first []answer
	for _, do := range calls {
		first = append(first, do())
	}
	for i := range slices.Backward(calls) {
		for _, between := range []int{0, i / 2, len(calls) - 1 - i} {
			calls[between]()
			if again := calls[i](); again != first[i] {
				t.Errorf("call %d behind call %d: %v, first %v", i, between, again, first[i])
			}
		}
	}
}

func TestP2SameAnswerAtOnce(t *testing.T) {
	calls := someCalls()
	var first []answer
	for _, do := range calls {
		first = append(first, do())
	}
	var all sync.WaitGroup
	for range 4 {
		all.Go(func() {
			for i, do := range calls {
				if again := do(); again != first[i] {
					t.Errorf("call %d beside others: %v, first %v", i, again, first[i])
				}
			}
		})
	}
	all.Wait()
}

// Whatever is handed in, a call ends, and tells a place within it.
func TestP1WhateverIsHandedIn(t *testing.T) {
	m := newMaker(3)
	signs := []string{"a", "b", "=", "?", "[", "]", "{", "}", "<", ">", ":", ",", "|", "\n", "byte", "text", "a=", "b={a:", "\x00", "\xff", "é", "-", "+", "\"", "\\", "1", "x"}
	some := func() string {
		text := ""
		for range m.IntN(30) {
			text += signs[m.IntN(len(signs))]
		}
		return text
	}
	for range 20000 {
		desc, from := some(), some()
		if m.IntN(2) == 0 {
			desc = "m=" + m.anyType(3).text
		}
		errno, at := Check(desc)
		if at < 0 || at > len(desc) || errno == api.OK && at != 0 || errno > api.ErrDeep {
			t.Fatalf("Check(%q) = %d, %d", desc, errno, at)
		}
		for _, do := range []converter{Encode, Decode} {
			s, e, to := do(desc, from)
			if errno != api.OK && (s != "" || e != errno || to != at) || e != api.OK && s != "" || to < 0 || to > max(len(desc), len(from)) {
				t.Fatalf("%q, %q: %q, %d, %d", desc, from, s, e, to)
			}
		}
		wantGetAsDecode(t, desc, from, some())
		wantTallyAsDecode(t, desc, []string{from, some(), from}, 1+m.IntN(8))
	}
}

// wantGetAsDecode asks for Decode's error, or else for a step that there is.
func wantGetAsDecode(t *testing.T, desc, data, path string) {
	t.Helper()
	s, e, at := Get(desc, data, path)
	_, errno, place := Decode(desc, data)
	if errno != api.OK && (s != "" || e != errno || at != place) || errno == api.OK && e != api.OK && (s != "" || e != api.ErrPath || at < 0 || at > strings.Count(path, "/")) {
		t.Fatalf("%q, %q, %q: %q, %d, %d", desc, data, path, s, e, at)
	}
}

// wantTallyAsDecode asks for Check's error, or else for what Decode does not take.
func wantTallyAsDecode(t *testing.T, desc string, messages []string, workers int) {
	t.Helper()
	sums, refused, e, at := Tally(desc, messages, workers)
	errno, place := Check(desc)
	others := 0
	for _, message := range messages {
		if _, e, _ := Decode(desc, message); errno == api.OK && e != api.OK {
			others++
		}
	}
	if e != errno || at != place || refused != others || len(sums) > 0 && refused == len(messages) {
		t.Fatalf("%q, %q: %v, %d, %d, %d, want %d refused", desc, messages, sums, refused, e, at, others)
	}
}

func TestP1GreatInputs(t *testing.T) {
	much := 1 << 20
	wantError(t, Encode, "m=byte", times("1", much), api.ErrValue, 3)
	wantError(t, Encode, "m=int", times("9", much), api.ErrValue, 18)
	wantError(t, Encode, "m=text", "\""+times("a", much), api.ErrValue, 301)
	wantError(t, Encode, "m=bytes", "x"+times("0", much), api.ErrValue, 601)
	wantError(t, Encode, "m=[byte]", "["+times("1,", much), api.ErrValue, 600)
	wantError(t, Encode, "m=[[byte]]", "["+times("["+times("1,", 299)+"1],", 299)+"[]]", api.ErrLong, 0)
	wantError(t, Decode, "m=byte", times("\x00", much), api.ErrLong, 0)
	wantCheck(t, api.ErrLong, times("a=byte\n", much))
	wantError(t, getBy("m=[?byte]"), "\x01\x01\x07", "0/+"+times("/+", much), api.ErrPath, 2)
	wantError(t, getBy("m=[?byte]"), "\x01\x01\x07", times("/", much), api.ErrPath, 0)
	wantError(t, getBy("m=[?byte]"), "\x01\x01\x07", times("0", much), api.ErrPath, 0)
	wantTally(t, "m=byte", slices.Repeat([]string{times("\x00", much)}, 60), nil, 60)
}

// Six fields in each of ten lines are many more values than a message has bytes.
func TestP1WideTypes(t *testing.T) {
	desc, name := "a=byte", "a"
	for _, next := range []string{"b", "c", "d", "e", "f", "g", "h", "i", "j"} {
		desc += "\n" + next + "={a:" + name + ",b:" + name + ",c:" + name + ",d:" + name + ",e:" + name + ",f:" + name + "}"
		name = next
	}
	wantCheck(t, api.OK, desc)
	wantError(t, Decode, desc, times("\x00", 1000), api.ErrData, 1000)
	wantError(t, Encode, desc, times("{", 9)+"1,", api.ErrValue, 11)
	wantError(t, getBy(desc), times("\x00", 1000), times("a/", 8)+"a", api.ErrData, 1000)
	wantTally(t, desc, slices.Repeat([]string{times("\x00", 1000)}, 60), nil, 60)
}

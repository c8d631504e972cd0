package sluice

import (
	"math"
	"runtime"
	"slices"
	"strings"
	"testing"

	"sluice/api"
)

// wantTally asks for one answer, with whatever workers and in whatever order.
func wantTally(t *testing.T, desc string, messages []string, want []api.Sum, refused int) {
	t.Helper()
	order := slices.Clone(messages)
	for workers := 1; workers <= 8; workers++ {
		sums, others, e, at := Tally(desc, order, workers)
		if !slices.Equal(sums, want) || others != refused || e != api.OK || at != 0 {
			t.Errorf("%q, %.80q, by %d: %v, %d, %d, %d, want %v, %d", desc, order, workers, sums, others, e, at, want, refused)
		}
		if len(order) > 1 {
			order = append(order[1:], order[0])
		}
	}
}

// wantTallyOf is for values of one type.
func wantTallyOf(t *testing.T, of string, values []string, want ...api.Sum) {
	t.Helper()
	var messages []string
	for _, value := range values {
		messages = append(messages, encoded(t, "m="+of, value))
	}
	wantTally(t, "m="+of, messages, want, 0)
}

func wantNoTally(t *testing.T, desc string, messages []string, workers int, errno api.Errno, place int) {
	t.Helper()
	if sums, refused, e, at := Tally(desc, messages, workers); len(sums) > 0 || refused != 0 || e != errno || at != place {
		t.Errorf("%q, %d messages, by %d: %v, %d, %d, %d, want %d, %d", desc, len(messages), workers, sums, refused, e, at, errno, place)
	}
}

func TestP7Example(t *testing.T) {
	far := "\x01\x03\x01\x02\xff"
	wantTally(t, "p={x:int,y:int}\nm=<at:p|far:[byte]>", []string{far, far, "\x07"}, []api.Sum{{Path: "far/*", Count: 6, Total: 516}}, 1)
}

func TestP7EachKind(t *testing.T) {
	wantTallyOf(t, "byte", []string{"0", "255", "255"}, api.Sum{Path: "", Count: 3, Total: 510})
	wantTallyOf(t, "short", []string{"65535", "65535"}, api.Sum{Path: "", Count: 2, Total: 131070})
	wantTallyOf(t, "word", []string{"4294967295", "4294967295", "1"}, api.Sum{Path: "", Count: 3, Total: 8589934591})
	wantTallyOf(t, "int", []string{"-5", "3", "-1"}, api.Sum{Path: "", Count: 3, Total: -3})
	wantTallyOf(t, "bool", []string{"yes", "no"})
	wantTallyOf(t, "text", []string{`""`, `"7"`, `"+"`})
	wantTallyOf(t, "bytes", []string{"x", "x07"})
	wantTallyOf(t, "[byte]", []string{"[]", "[1,2]", "[3]"}, api.Sum{Path: "*", Count: 3, Total: 6})
	wantTallyOf(t, "[[byte]]", []string{"[[],[1,2],[3]]", "[[4]]", "[]"}, api.Sum{Path: "*/*", Count: 4, Total: 10})
	wantTallyOf(t, "?byte", []string{"-", "+1", "+2", "-"}, api.Sum{Path: "+", Count: 2, Total: 3})
	wantTallyOf(t, "??byte", []string{"-", "+-", "++2"}, api.Sum{Path: "+/+", Count: 1, Total: 2})
	wantTallyOf(t, "{a:byte}", []string{"{1}", "{2}"}, api.Sum{Path: "a", Count: 2, Total: 3})
	wantTallyOf(t, "<a:byte|b:int|c:text>", []string{"a:1", "b:-1", "b:-7", `c:"9"`, "a:2"}, api.Sum{Path: "a", Count: 2, Total: 3}, api.Sum{Path: "b", Count: 2, Total: -8})
	wantTallyOf(t, "<a:[byte]|b:byte>", []string{"a:[]", "a:[]"})
	wantTallyOf(t, times("?", 11)+"byte", []string{times("+", 11) + "1"}, api.Sum{Path: times("+/", 10) + "+", Count: 1, Total: 1})
	wantTallyOf(t, times("[", 11)+"byte"+times("]", 11), []string{times("[", 11) + "1" + times("]", 11)}, api.Sum{Path: times("*/", 10) + "*", Count: 1, Total: 1})
}

// The types of the numbers count for nothing in a path, nor do elements' numbers;
// a path that leads to no number in any message is not told.
func TestP7Paths(t *testing.T) {
	wantTallyOf(t, "[<a:byte|b:{a:[?short],b:bool}|c:word>]", []string{
		"[a:1,b:{[-,+2,+3],yes},a:4]", "[b:{[],no}]", "[b:{[+10],no},b:{[+20],no},a:5]",
	}, api.Sum{Path: "*/a", Count: 3, Total: 10}, api.Sum{Path: "*/b/a/*/+", Count: 4, Total: 35})
}

func TestP7SortedByPath(t *testing.T) {
	wantTallyOf(t, "{b:byte,ab:byte,a:{z:byte,y:byte},aa:?byte}", []string{"{1,2,{3,4},+5}"},
		api.Sum{Path: "a/y", Count: 1, Total: 4}, api.Sum{Path: "a/z", Count: 1, Total: 3}, api.Sum{Path: "aa/+", Count: 1, Total: 5}, api.Sum{Path: "ab", Count: 1, Total: 2}, api.Sum{Path: "b", Count: 1, Total: 1})
	wantTallyOf(t, "<z:byte|y:byte|x:byte>", []string{"z:1", "y:2", "x:3", "z:4"},
		api.Sum{Path: "x", Count: 1, Total: 3}, api.Sum{Path: "y", Count: 1, Total: 2}, api.Sum{Path: "z", Count: 2, Total: 5})
}

func TestP7SumsComeInAtTheOtherEnd(t *testing.T) {
	most, least := "9223372036854775807", "-9223372036854775808"
	wantTallyOf(t, "int", []string{most, "1"}, api.Sum{Count: 2, Total: math.MinInt64})
	wantTallyOf(t, "int", []string{least, "-1"}, api.Sum{Count: 2, Total: math.MaxInt64})
	wantTallyOf(t, "int", []string{least, least}, api.Sum{Count: 2, Total: 0})
	wantTallyOf(t, "int", []string{most, most, most}, api.Sum{Count: 3, Total: math.MaxInt64 - 2})
	wantTallyOf(t, "[int]", []string{"[" + most + "," + most + "]", "[2]", "[" + most + "]"}, api.Sum{Path: "*", Count: 4, Total: math.MaxInt64})
}

func TestP7MessagesThatAreNone(t *testing.T) {
	long := encoded(t, "m=[bytes]", listOfBytes(1000))
	wantTally(t, "m=byte", []string{"", "\x01\x02", "\x05", times("\x00", 1001)}, []api.Sum{{Count: 1, Total: 5}}, 3)
	wantTally(t, "m=[bytes]", []string{long, long + "\x00", long[:999]}, nil, 2)
	wantTally(t, "m={a:byte,b:bool}", []string{"\x01\x02", "\x02\x01", "\x04"}, []api.Sum{{Path: "a", Count: 1, Total: 2}}, 2)
	wantTally(t, "m={a:byte,b:bool}", []string{"\x01\x02"}, nil, 1)
	wantTally(t, "m=byte", make([]string, 60), nil, 60)
	wantTally(t, "m=byte", nil, nil, 0)
	wantTally(t, "m=byte", []string{}, nil, 0)
}

func TestP7Limits(t *testing.T) {
	full := slices.Repeat([]string{"\x01"}, 61)
	wantTally(t, "m=byte", full[:60], []api.Sum{{Count: 60, Total: 60}}, 0)
	for _, workers := range []int{math.MinInt, -1, 0, 9, 10, 1 << 32, 1<<32 + 1, math.MaxInt} {
		for _, n := range []int{0, 1, 60, 61} {
			wantNoTally(t, "m=byte", full[:n], workers, api.ErrConf, 0)
		}
	}
	for workers := 1; workers <= 8; workers++ {
		wantNoTally(t, "m=byte", full, workers, api.ErrConf, 0)
		wantNoTally(t, "m=byte", make([]string, 100000), workers, api.ErrConf, 0)
	}
}

func TestP7DescriptionFirst(t *testing.T) {
	for _, workers := range []int{0, 1, 8, 9} {
		for _, n := range []int{0, 1, 61} {
			wantDescriptionFirst(t, func(desc, message string) (string, api.Errno, int) {
				sums, refused, e, at := Tally(desc, slices.Repeat([]string{message}, n), workers)
				if len(sums) > 0 || refused != 0 {
					t.Errorf("%q: %v, %d", desc, sums, refused)
				}
				return "", e, at
			})
		}
	}
}

// sumsOf is what is to be told of values whose numbers are known.
func sumsOf(all []made) []api.Sum {
	numbers := map[string][]int64{}
	for _, v := range all {
		for path, some := range v.numbers {
			numbers[path] = append(numbers[path], some...)
		}
	}
	var sums []api.Sum
	for path, some := range numbers {
		sum := api.Sum{Path: path, Count: len(some)}
		for _, n := range some {
			sum.Total += n
		}
		sums = append(sums, sum)
	}
	slices.SortFunc(sums, func(a, b api.Sum) int { return slices.Compare([]byte(a.Path), []byte(b.Path)) })
	return sums
}

// Many rows of messages, some of which are cut off or too long.
func TestP7ManyValues(t *testing.T) {
	m, looked := newMaker(7), 0
	for range 600 {
		desc, of := m.description()
		var taken []made
		var messages []string
		refused := 0
		for range m.IntN(61) {
			v := of.value()
			switch {
			case len(v.data) > api.MaxMessage:
				messages = append(messages, v.data)
				refused++
			case m.IntN(4) == 0:
				messages = append(messages, v.data[:m.IntN(len(v.data))])
				refused++
			default:
				messages = append(messages, v.data)
				taken = append(taken, v)
			}
		}
		want := sumsOf(taken)
		looked += len(want)
		wantTally(t, desc, messages, want, refused)
	}
	if looked < 300 {
		t.Errorf("only %d sums were looked at", looked)
	}
}

func TestP7SameAnswerUnderWhateverSchedule(t *testing.T) {
	desc, of := "m={a:[int],b:<x:short|y:?word>}", []string{"{[1,2,3],x:4}", "{[-9223372036854775808],y:+5}", "{[9223372036854775807],y:-}"}
	var messages []string
	for i := range 60 {
		messages = append(messages, encoded(t, desc, of[i%3]))
	}
	messages[7], messages[50] = "", "\x01"
	first, refused, _, _ := Tally(desc, messages, 1)
	for _, processors := range []int{1, 2, 8} {
		before := runtime.GOMAXPROCS(processors)
		for range 200 {
			for _, workers := range []int{1, 2, 5, 8} {
				if sums, others, e, at := Tally(desc, messages, workers); !slices.Equal(sums, first) || others != refused || e != api.OK || at != 0 {
					t.Errorf("by %d workers on %d processors: %v, %d, %d, %d, want %v, %d", workers, processors, sums, others, e, at, first, refused)
				}
			}
		}
		runtime.GOMAXPROCS(before)
	}
	if len(first) != 3 || refused != 2 {
		t.Errorf("%v, %d", first, refused)
	}
}

// A goroutine whose last word is said may still be on its way out: it is given
// time, but one that waits for something never goes.
func TestP1NoGoroutineGoesOn(t *testing.T) {
	before := runtime.NumGoroutine()
	for range 50 {
		for _, n := range []int{0, 1, 3, 60, 61} {
			Tally("m=byte", slices.Repeat([]string{"\x01"}, n), 8)
			Tally("m=b", slices.Repeat([]string{"\x01"}, n), 8)
			Tally("m=byte", slices.Repeat([]string{""}, n), 9)
		}
	}
	for range 1000000 {
		if runtime.NumGoroutine() <= before {
			return
		}
		runtime.Gosched()
	}
	t.Errorf("%d goroutines, and %d before", runtime.NumGoroutine(), before)
}

func TestP2MessagesAreNotWrittenInto(t *testing.T) {
	behind := []string{"\x01", "\x02", "", "behind", "it", ""}
	kept := slices.Clone(behind)
	for workers := range 10 {
		Tally("m=byte", behind[:3], workers)
		Tally("m=b", behind[:3], workers)
		if !slices.Equal(behind, kept) {
			t.Fatalf("by %d workers: %q", workers, behind)
		}
	}
}

func TestP2SumsAreTheCallers(t *testing.T) {
	desc := "m={a:byte,b:byte,c:byte}"
	messages := []string{"\x01\x02\x03"}
	want := []api.Sum{{Path: "a", Count: 1, Total: 1}, {Path: "b", Count: 1, Total: 2}, {Path: "c", Count: 1, Total: 3}}
	first, _, _, _ := Tally(desc, messages, 2)
	second, _, _, _ := Tally(desc, messages, 2)
	whole := first[:cap(first)]
	for i := range whole {
		whole[i] = api.Sum{Path: "?", Count: -1, Total: -1}
	}
	third, _, _, _ := Tally(desc, messages, 2)
	if !slices.Equal(second, want) || !slices.Equal(third, want) {
		t.Errorf("%v, %v", second, third)
	}
}

// The most numbers that messages can have, and the deepest paths to them.
func TestP1GreatTally(t *testing.T) {
	record := times("{abcdef:", 9) + "byte" + times("}", 9)
	desc := "m=[[" + record + "]]"
	inner := "[" + times(times("{", 9)+"1"+times("}", 9)+",", 299) + times("{", 9) + "1" + times("}", 9) + "]"
	message := encoded(t, desc, "["+strings.Join([]string{inner, inner, inner}, ",")+"]")
	path := "*/*" + times("/abcdef", 9)
	wantTally(t, desc, slices.Repeat([]string{message}, 60), []api.Sum{{Path: path, Count: 54000, Total: 54000}}, 0)
}

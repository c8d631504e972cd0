package sluice

import (
	"strconv"
	"strings"
	"testing"

	"sluice/api"
)

// getBy is Get by one description, of many messages and paths.
func getBy(desc string) converter {
	return func(data, path string) (string, api.Errno, int) { return Get(desc, data, path) }
}

func encoded(t *testing.T, desc, value string) string {
	t.Helper()
	data, e, at := Encode(desc, value)
	if e != api.OK {
		t.Fatalf("Encode(%q, %q): %d, %d", desc, value, e, at)
	}
	return data
}

func TestP6Example(t *testing.T) {
	get, data := getBy("p={x:int,y:int}\nm=<at:p|far:[byte]>"), "\x01\x03\x01\x02\xff"
	wantOK(t, get, data, "far/2", "255")
	wantError(t, get, data, "far/3", api.ErrPath, 1)
	wantError(t, get, data, "at", api.ErrPath, 0)
}

func TestP6WholeValue(t *testing.T) {
	for _, p := range pairs() {
		wantOK(t, getBy("m="+p.of), p.data, "", p.value)
		wantError(t, getBy("m="+p.of), p.data, "/", api.ErrPath, 0)
	}
}

func TestP6Parts(t *testing.T) {
	for _, c := range []struct{ of, value, path, part string }{
		{"{a:byte,ab:text,b:?bool}", `{7,"a/b",+no}`, "a", "7"}, {"{a:byte,ab:text,b:?bool}", `{7,"a/b",+no}`, "ab", `"a/b"`}, {"{a:byte,ab:text,b:?bool}", `{7,"a/b",+no}`, "b", "+no"}, {"{a:byte,ab:text,b:?bool}", `{7,"a/b",+no}`, "b/+", "no"},
		{"{" + parts(6, ",") + "}", "{1,2,3,4,5,6}", "f", "6"}, {"{abcdef:byte}", "{1}", "abcdef", "1"}, {"{a:{a:{a:byte}}}", "{{{1}}}", "a/a", "{1}"}, {"{a:{a:{a:byte}}}", "{{{1}}}", "a/a/a", "1"},
		{"[int]", "[-5]", "0", "-5"}, {"[bytes]", "[x,x00,xff]", "0", "x"}, {"[bytes]", "[x,x00,xff]", "2", "xff"}, {"[[byte]]", "[[],[1,2]]", "0", "[]"}, {"[[byte]]", "[[],[1,2]]", "1/1", "2"},
		{"?byte", "+1", "+", "1"}, {"???byte", "++-", "+/+", "-"}, {"???byte", "+++9", "+/+/+", "9"},
		{"<a:byte|ab:bool>", "a:1", "a", "1"}, {"<a:byte|ab:bool>", "ab:yes", "ab", "yes"}, {"<a:<b:byte>>", "a:b:1", "a", "b:1"}, {"<a:<b:byte>>", "a:b:1", "a/b", "1"},
		{times("?", 11) + "byte", times("+", 11) + "1", times("+/", 10) + "+", "1"}, {times("[", 11) + "byte" + times("]", 11), times("[", 11) + "1" + times("]", 11), times("0/", 10) + "0", "1"},
	} {
		desc := "m=" + c.of
		wantOK(t, getBy(desc), encoded(t, desc, c.value), c.path, c.part)
	}
}

// By a name a type is the same as if it stood there.
func TestP6PartsByNames(t *testing.T) {
	desc := "a={x:byte,y:[byte]}\nb=<a:a|b:?a>\nm={b:b,c:b}"
	data := encoded(t, desc, "{a:{1,[2]},b:+{3,[4,5]}}")
	for path, part := range map[string]string{"b": "a:{1,[2]}", "b/a": "{1,[2]}", "b/a/x": "1", "b/a/y/0": "2", "c/b/+/y": "[4,5]", "c/b/+/y/1": "5"} {
		wantOK(t, getBy(desc), data, path, part)
	}
	for path, step := range map[string]int{"a": 0, "m": 0, "b/b": 1, "c/a": 1, "c/b/x": 2, "c/b/+/z": 3} {
		wantError(t, getBy(desc), data, path, api.ErrPath, step)
	}
}

func TestP6WrongPaths(t *testing.T) {
	for _, c := range []struct {
		of, value string
		paths     map[string]int
	}{
		{"{a:byte,b:[byte],c:?byte,d:?byte,e:<x:byte|y:byte>,f:text}", `{1,[2,3],-,+4,x:5,"ab"}`, map[string]int{
			" ": 0, "A": 0, "g": 0, "ab": 0, "0": 0, "1": 0, "+": 0, "*": 0, "/a": 0, "//": 0, "//a": 0, "a:": 0, "a ": 0, " a": 0, "a\x00": 0, "\x00": 0, "\xff": 0, "é": 0, "a.b": 0, "a\n": 0,
			"a/": 1, "a//": 1, "a/0": 1, "a/a": 1, "a/+": 1, "a/*": 1, "a/1": 1,
			"b/": 1, "b/2": 1, "b/-1": 1, "b/-0": 1, "b/00": 1, "b/01": 1, "b/+0": 1, "b/+": 1, "b/ 0": 1, "b/0 ": 1, "b/0x0": 1, "b/0_0": 1, "b/*": 1, "b/a": 1, "b//0": 1, "b/0/": 2, "b/1/0": 2, "b/300": 1, "b/1000000000000000000000000": 1, "b/18446744073709551616": 1, "b/4294967296": 1, "b/٠": 1,
			"c/": 1, "c/+": 1, "c/-": 1, "c/0": 1, "d/": 1, "d/-": 1, "d/0": 1, "d/++": 1, "d//+": 1, "d/ +": 1, "d/+/": 2, "d/+/+": 2, "d/4": 1,
			"e/": 1, "e/y": 1, "e/0": 1, "e/x:": 1, "e/x:5": 1, "e/+": 1, "e/x/": 2, "e/x/x": 2, "e/xx": 1, "f/": 1, "f/0": 1, "f/a": 1, "f/ab": 1, "f/\"ab\"": 1,
			"g/h/i": 0, "a/b/c": 1, "e/y/z": 1, "b/0/1/2": 2, "d/+/x/y": 2,
		}},
		{"byte", "7", map[string]int{"7": 0, "0": 0, "+": 0, "*": 0, "a": 0, "byte": 0, "m": 0}}, {"bool", "yes", map[string]int{"yes": 0, "1": 0, "0": 0}}, {"bytes", "x00", map[string]int{"0": 0, "x": 0}},
		{"?byte", "-", map[string]int{"+": 0, "-": 0}}, {"[byte]", "[]", map[string]int{"0": 0, "-1": 0, "1": 0}}, {"[?byte]", "[-,+1]", map[string]int{"0/+": 1, "1/-": 1, "2/+": 0, "1/+/+": 2}},
		{times("?", 11) + "byte", times("+", 11) + "1", map[string]int{times("+/", 11): 11, times("+/", 11) + "+": 11, times("+/", 10) + "-": 10}},
	} {
		desc := "m=" + c.of
		data := encoded(t, desc, c.value)
		for path, step := range c.paths {
			wantError(t, getBy(desc), data, path, api.ErrPath, step)
		}
	}
}

func TestP6ListsToTheirEnds(t *testing.T) {
	for _, n := range []int{1, 9, 10, 11, 100, 101, 128, 300} {
		var numbers []string
		for i := range n {
			numbers = append(numbers, strconv.Itoa(i%256))
		}
		data := encoded(t, "m=[byte]", "["+strings.Join(numbers, ",")+"]")
		for i := range 400 {
			step := strconv.Itoa(i)
			if i < n {
				wantOK(t, getBy("m=[byte]"), data, step, numbers[i])
			} else {
				wantError(t, getBy("m=[byte]"), data, step, api.ErrPath, 0)
			}
			wantError(t, getBy("m=[byte]"), data, "0"+step, api.ErrPath, 0)
			wantError(t, getBy("m=[byte]"), data, "-"+step, api.ErrPath, 0)
		}
	}
}

// Every byte as a step, and behind one.
func TestP6EveryByte(t *testing.T) {
	desc := "m={a:[byte],b:?byte}"
	data := encoded(t, desc, "{[1],+2}")
	for b := range 256 {
		sign := string([]byte{byte(b)})
		if sign != "a" && sign != "b" {
			wantError(t, getBy(desc), data, sign, api.ErrPath, 0)
		}
		if sign != "0" {
			wantError(t, getBy(desc), data, "a/"+sign, api.ErrPath, 1)
		}
		if sign != "+" {
			wantError(t, getBy(desc), data, "b/"+sign, api.ErrPath, 1)
		}
		if sign != "/" {
			wantError(t, getBy(desc), data, "a"+sign, api.ErrPath, 0)
			wantError(t, getBy(desc), data, "b/+"+sign, api.ErrPath, 1)
		}
	}
}

func TestP6DescriptionFirst(t *testing.T) {
	for _, path := range []string{"", "x", "/", "0/1"} {
		wantDescriptionFirst(t, func(desc, data string) (string, api.Errno, int) { return Get(desc, data, path) })
	}
}

func TestP6MessageBeforePath(t *testing.T) {
	for _, path := range []string{"", "a", "b", "zz", "/", "b/0"} {
		get := func(desc, data string) (string, api.Errno, int) { return Get(desc, data, path) }
		wantError(t, get, "m={a:byte,b:[bool]}", "", api.ErrData, 0)
		wantError(t, get, "m={a:byte,b:[bool]}", "\x01", api.ErrData, 1)
		wantError(t, get, "m={a:byte,b:[bool]}", "\x01\x01\x02", api.ErrData, 2)
		wantError(t, get, "m={a:byte,b:[bool]}", "\x01\x01\x01\x00", api.ErrData, 3)
		wantError(t, get, "m={a:byte,b:[bool]}", times("\x00", 1001), api.ErrLong, 0)
		wantError(t, get, "m={a:byte,b:[bool]}", times("\x00", 1000), api.ErrData, 2)
	}
}

// firstWrongStep tells by all paths that there are which step of another one
// leads nowhere, or -1.
func firstWrongStep(paths map[string]string, path string) int {
	if path == "" {
		return -1
	}
	steps := strings.Split(path, "/")
	for i, step := range steps {
		if _, ok := paths[strings.Join(steps[:i+1], "/")]; !ok || step == "" {
			return i
		}
	}
	return -1
}

// All paths into many values, and each of these changed.
func TestP6ManyValues(t *testing.T) {
	m, looked := newMaker(5), 0
	for range 1500 {
		desc, of := m.description()
		v := of.value()
		if len(v.data) > api.MaxMessage {
			continue
		}
		get := getBy(desc)
		for path, part := range v.parts {
			looked++
			wantOK(t, get, v.data, path, part)
			for _, changed := range changes(path, "/+*-01abx") {
				if step := firstWrongStep(v.parts, changed); step < 0 {
					wantOK(t, get, v.data, changed, v.parts[changed])
				} else {
					wantError(t, get, v.data, changed, api.ErrPath, step)
				}
			}
		}
	}
	if looked < 1000 {
		t.Errorf("only %d paths were looked at", looked)
	}
}

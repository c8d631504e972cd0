package values

import (
	"strconv"
	"strings"

	"sluice/describe"
)

// Part is the value to which a path leads. If it leads nowhere it tells the
// number of the first step that does, and false.
func (v Value) Part(path string) (Value, int, bool) {
	if path == "" {
		return v, 0, true
	}
	number := 0
	for step := range strings.SplitSeq(path, "/") {
		part, ok := v.behind(step)
		if !ok {
			return Value{}, number, false
		}
		v = part
		number++
	}
	return v, 0, true
}

func (v Value) behind(step string) (Value, bool) {
	for i, part := range v.Parts {
		if v.step(i) == step {
			return part, true
		}
	}
	return Value{}, false
}

// step is the only one that leads from the value to one of its parts.
func (v Value) step(part int) string {
	switch v.Of.Kind {
	case describe.List:
		return strconv.Itoa(part)
	case describe.Option:
		return "+"
	case describe.Choice:
		return v.Of.Parts[v.Number].Name
	}
	return v.Of.Parts[part].Name
}

// Numbers tells each number in the value, and the path that leads to it, in
// which a * stands for whatever element of a list.
func (v Value) Numbers(tell func(path string, number int64)) { v.numbers(nil, tell) }

// numbers may append to one path for each part: what it wrote there for the
// part ahead was told as a text of its own.
func (v Value) numbers(path []byte, tell func(string, int64)) {
	switch v.Of.Kind {
	case describe.Byte, describe.Short, describe.Word, describe.Int:
		tell(string(path), v.Number)
	}
	if len(path) > 0 {
		path = append(path, '/')
	}
	for i, part := range v.Parts {
		part.numbers(append(path, v.stepToAny(i)...), tell)
	}
}

func (v Value) stepToAny(part int) string {
	if v.Of.Kind == describe.List {
		return "*"
	}
	return v.step(part)
}
